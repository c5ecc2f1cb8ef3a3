"""Orders and graphs for the tests, and wrong ones."""
import itertools
import random

from tests.wrong import KINDS, NUMBERS

HUGE = 10 ** 40


def goes_round(many, pairs):
    """Whether a row of pairs leads from an element back to it, by following all rows."""
    reach = set(pairs)
    for _ in range(many):
        reach |= {(i, k) for i, j in reach for h, k in pairs if h == j}
    return any(i == j for i, j in reach)


def all_orders(many):
    pairs = [pair for pair in itertools.product(range(many), repeat=2) if pair[0] != pair[1]]
    found = []
    for size in range(len(pairs) + 1):
        for group in itertools.combinations(pairs, size):
            if not goes_round(many, group):
                found.append((many, group))
    return found


def drawn_orders(seed, many, number):
    """Some orders, whose pairs do not always go from lesser to greater integers."""
    chance = random.Random(seed)
    found = []
    while len(found) < number:
        names = list(range(many))
        chance.shuffle(names)
        share = chance.random()
        pairs = [(names[i], names[j]) for i, j in itertools.combinations(range(many), 2) if chance.random() < share]
        found.append((many, tuple(sorted(pairs))))
    return found


def all_graphs(many):
    pairs = list(itertools.combinations(range(many), 2))
    return [(many, group) for size in range(len(pairs) + 1) for group in itertools.combinations(pairs, size)]


def drawn_graphs(seed, many, number):
    chance = random.Random(seed)
    pairs = list(itertools.combinations(range(many), 2))
    return [(many, tuple(pair for pair in pairs if chance.random() < share))
            for share in [chance.random() for _ in range(number)]]


# Neither orders nor graphs.
NEITHER = KINDS + NUMBERS + (
    (2,), (2, (), ()), [2, ()], {2: ()}, "2()", (0, ()), (7, ()), (-1, ()), (HUGE, ()), (True, ()), (False, ()), (None, ()),
    ("2", ()), ((2,), ()), ([2], ()), (2, None), (2, True), (2, 1), (2, ""), (2, "01"), (2, []), (2, {}), (2, [(0, 1)]),
    (2, {(0, 1): 1}), (2, (0, 1)), (2, ((0, 1), None)), (2, ((0,),)), (2, ((0, 1, 1),)), (2, ([0, 1],)), (2, ("01",)),
    (2, ((0, "1"),)), (2, ((0, None),)), (2, ((0, True),)), (2, ((False, 1),)), (2, ((0, (1,)),)), (2, ({0: 1},)),
    (2, ((0, 2),)), (2, ((-1, 1),)), (2, ((0, HUGE),)), (2, ((0, 0),)), (2, ((1, 1),)), (1, ((0, 0),)), (1, ((0, 1),)),
    (2, ((0, 1), (0, 1))), (3, ((0, 2), (0, 1))), (3, ((1, 2), (0, 1))), (3, ((1, 2), (0, 2))), (6, ((0, 6),)),
    (6, ((0, 1), (2, 3), (4, 6))), (6, ((0, 1), (4, 5), (2, 3))), (2, (((0, 1),),)), (2, ((0, 1),), ()))
# Pairs that go round, and that are not from a lesser to a greater integer.
ROUND = ((2, ((0, 1), (1, 0))), (3, ((0, 1), (1, 2), (2, 0))), (4, ((0, 3), (1, 2), (2, 1))), (6, ((0, 5), (1, 0), (5, 1))),
         (6, ((0, 1), (1, 2), (2, 3), (3, 4), (4, 5), (5, 0))), (5, ((0, 1), (0, 2), (1, 3), (2, 3), (3, 4), (4, 0))))
