"""Points 27 to 29: integer hulls, papers that show bounds, and rounds."""
import itertools
import random
import unittest
from fractions import Fraction
from math import ceil, floor, gcd

from latticepoints.cuts import best, cut_lines, integer_hull, rounds
from latticepoints.errors import BadGoal, BadHalves, BadPaper, LatticeError, NoPoint, NotPlane, Unbounded
from tests.faults import BAD_HALVES, BOX, EMPTY, UNBOUNDED, UNIT
from tests.plain import corners_by_pairs, in_hull, listed_halves
from tests.wrong import KINDS, NUMBERS, expect

HUGE = 10 ** 40
SQUARE = (((1, 0), 1), ((-1, 0), 0), ((0, 1), 1), ((0, -1), 0))
SOLID = (((1, 0, 0), 1), ((-1, 0, 0), 0), ((0, 1, 0), 1), ((0, -1, 0), 0), ((0, 0, 1), 1), ((0, 0, -1), 0))
THIRD = (((3, 0), 2), ((-3, 0), -1), ((0, 1), 1), ((0, -1), 0))
# The hull of (0, 0), (0, 1) and (k, 1 / 2).
WEDGES = {k: (((-1, 0), 0), ((1, -2 * k), 0), ((1, 2 * k), 2 * k)) for k in (1, 2, 3, 5, 25)}
# A set of one x alone, a segment, and sets that lie on a line.
ONE = (((1, 0), 3), ((-1, 0), -3), ((0, 1), -2), ((0, -1), 2))
HALF = (((2, 0), 1), ((-2, 0), -1), ((0, 1), 2), ((0, -1), -2))
SEGMENT = (((1, 2), 3), ((-1, -2), -3), ((5, 0), 22), ((-3, 0), 7))
BETWEEN = (((2, 4), 3), ((-2, -4), -3), ((5, 0), 22), ((-3, 0), 7))
SHORT = (((1, 2), 3), ((-1, -2), -3), ((5, 0), 14), ((-5, 0), -6))
THIN = (THIRD, HALF, BETWEEN, SHORT, (((50, 49), 999), ((-50, -49), -998), ((1, 0), 5), ((-1, 0), 5)),
        (((2, 2), 3), ((-2, -2), -2), ((3, -3), 2), ((-3, 3), -1)),
        (((50, 1), 26), ((-50, 1), -24), ((0, -1), 1)), (((1, -50), 0), ((1, 50), 49), ((-2, 0), -1)),
        (((26, 36), 25), ((15, -40), 54), ((-23, -6), -1)), (((-12, 25), -25), ((18, 6), 47), ((-20, -30), -11)),
        (((2, 1), 2), ((-2, 1), 0), ((0, -2), -1)))
WITH_POINTS = (BOX, SQUARE, ONE, SEGMENT, (((1, 1), 1000), ((-1, 0), 1000), ((0, -1), 1000)),
               (((50, 50), 1000), ((-50, 49), 1000), ((0, -50), 999)), (((2, 0), 3), ((-2, 0), -1), ((0, 2), 5), ((0, -2), -1)),
               (((1, 1), 1), ((-1, 1), 1), ((1, -1), 1), ((-1, -1), 1)), SQUARE * 2 + SQUARE[:2]) + tuple(WEDGES.values())
GREAT = ((((50, 49), 1000), ((-49, -48), 1000), ((1, -1), 1000), ((-1, 1), 1000)),
         (((50, -1), 1000), ((50, 1), 1000), ((-1, 0), 1000)), (((-50, 49), 1000), ((49, -48), 1000), ((1, 1), 1000), ((-1, -1), 999)),
         (((1, 0), 1000), ((-1, 0), 1000), ((0, 1), 1000), ((0, -1), 1000)),
         (((7, 50), 993), ((-43, -49), 877), ((37, -2), 1000), ((-50, 11), 431)))
LONG = ((((-26, -2), -7), ((50, 1), -20), ((-50, 1), 130), ((50, 16), 990), ((-11, -37), -752)),
        (((18, 24), 958), ((-7, 28), 873), ((49, -4), 329), ((-1, -50), -6), ((-1, 50), 44)))


def product(a, p):
    return a[0] * p[0] + a[1] * p[1]


def drawn_halves(seed, many, bounds=(2, 5, 50), limits=(3, 30, 1000)):
    """Halves of the plane that are bounded: of any numbers, about a ratio's point, or with pairs that are nearly opposite."""
    chance = random.Random(seed)
    found = []
    while len(found) < many:
        bound, limit, kind = chance.choice(bounds), chance.choice(limits), chance.randint(0, 2)
        under, middle = chance.randint(2, 9), (chance.randint(-30, 30), chance.randint(-30, 30))
        halves = []
        for _ in range(chance.randint(3, 10)):
            a = (chance.randint(-bound, bound), chance.randint(-bound, bound))
            b = chance.randint(-limit // 4, limit)
            if kind == 1:
                b = -(-product(a, middle) // under) + chance.randint(0, 1)
            if kind == 2 and halves and chance.random() < 0.5:
                (x, y), c = chance.choice(halves)
                a = (max(-bound, min(bound, chance.randint(-1, 1) - x)), max(-bound, min(bound, chance.randint(-1, 1) - y)))
                b = max(-limit, min(limit, chance.randint(-1, 3) - c))
            if any(a) and abs(b) <= 1000:
                halves.append((a, b))
        if len(halves) > 1 and is_bounded(halves):
            found.append(tuple(halves))
    return found


def is_bounded(halves):
    try:
        cut_lines(tuple(halves), ())
    except Unbounded:
        return False
    return True


def area_of(halves):
    """About how many points a box around the set has; 0 for an empty one."""
    corners = corners_by_pairs(halves)
    if not corners:
        return 0
    return (floor(max(x for x, _ in corners)) - floor(min(x for x, _ in corners)) + 1) * \
        (floor(max(y for _, y in corners)) - floor(min(y for _, y in corners)) + 1)


def listed(halves):
    return listed_halves(halves, 1) if corners_by_pairs(halves) else ()


def rows_of(halves):
    """The first and the last point of each column x = 0, 1, .., from bounds for y."""
    corners = corners_by_pairs(halves)
    found = []
    for x in range(ceil(min(x for x, _ in corners)), floor(max(x for x, _ in corners)) + 1):
        low = [-((b - a[0] * x) // -a[1]) for a, b in halves if a[1] < 0]
        high = [(b - a[0] * x) // a[1] for a, b in halves if a[1] > 0]
        if all(a[0] * x <= b for a, b in halves if a[1] == 0) and max(low) <= min(high):
            found.extend([(x, max(low)), (x, min(high))])
    return sorted(set(found))


def corners_among(points):
    """The corners of the hull of points, ascending: no segment or triangle of others holds them."""
    if len(points) < 12:
        return tuple(p for p in points if not in_hull([q for q in points if q != p], p))
    found = set()
    for side in (points, points[::-1]):
        chain = []
        for x, y in side:
            while len(chain) > 1:
                (p, q), (r, s) = chain[-2:]
                if (r - p) * (y - q) - (s - q) * (x - p) > 0:
                    break
                chain.pop()
            chain.append((x, y))
        found.update(chain)
    return tuple(sorted(found))


class IntegerHull(unittest.TestCase):
    def check(self, halves, points):
        if points:
            self.assertEqual(integer_hull(halves), corners_among(points), halves)
        else:
            expect(self, NoPoint, integer_hull, halves)

    def test_listing(self):
        found = {}
        for halves in drawn_halves(271, 260, (2, 4, 6, 50), (3, 9, 30)) + list(THIN + WITH_POINTS + LONG):
            if area_of(halves) < 5000:
                points = listed(halves)
                found[min(len(points), 4)] = found.get(min(len(points), 4), 0) + 1
                self.check(halves, points)
        self.assertGreater(min(found[k] for k in range(5)), 5)

    def test_great_sets(self):
        for halves in GREAT + tuple(drawn_halves(272, 40, (3, 50), (1000,))):
            if corners_by_pairs(halves):
                self.check(halves, rows_of(halves))

    def test_known(self):
        self.assertEqual(integer_hull(SQUARE), ((0, 0), (0, 1), (1, 0), (1, 1)))
        self.assertEqual(integer_hull(ONE), ((3, -2),))
        self.assertEqual(integer_hull(SEGMENT), ((-1, 2), (3, 0)))
        for k, halves in WEDGES.items():
            self.assertEqual(integer_hull(halves), ((0, 0), (0, 1)), k)
        self.assertEqual(len(integer_hull(GREAT[3])), 4)
        for halves in EMPTY + THIN:
            if len(halves[0][0]) == 2:
                expect(self, NoPoint, integer_hull, halves)

    def test_order_of_the_halves(self):
        for halves in drawn_halves(273, 15, (5,), (9,)):
            self.check(halves[::-1], listed(halves))
            self.check(halves[1:] + halves[:1], listed(halves))


def plain_told(halves, paper):
    """What the lines of a paper tell, or the index of the first that is not right, or "all"."""
    if not isinstance(paper, tuple) or len(paper) > 300:
        return "all"
    known = list(halves)
    for at, line in enumerate(paper):
        total, last = [Fraction(0)] * 3, -1
        if not isinstance(line, tuple) or len(line) > 10:
            return at
        for part in line:
            if not isinstance(part, tuple) or len(part) != 2 or part[0].__class__ is not int or not last < part[0] < len(known):
                return at
            last, factor = part
            if not isinstance(factor, tuple) or len(factor) != 2 or {n.__class__ for n in factor} != {int}:
                return at
            if factor[0] < 1 or factor[1] < 1 or gcd(*factor) != 1:
                return at
            (x, y), b = known[last]
            total = [one + other * Fraction(*factor) for one, other in zip(total, (x, y, b))]
        if total[0].denominator > 1 or total[1].denominator > 1:
            return at
        known.append(((int(total[0]), int(total[1])), floor(total[2])))
    return tuple(known[len(halves):])


def changes_of(chance, paper, many):
    """Papers that differ a little from a paper."""
    for _ in range(many):
        lines = [list(line) for line in paper]
        at = chance.randrange(len(lines))
        line = lines[at]
        kind = chance.randint(0, 8)
        if kind == 0:
            del lines[at]
        elif kind == 1:
            lines.insert(at, [])
        elif kind == 2:
            lines[at] = line[::-1]
        elif kind == 3:
            lines.append(line)
        elif line:
            k = chance.randrange(len(line))
            index, factor = line[k]
            line[k] = {4: (index + chance.choice((-1, 1, 2)), factor), 5: (index, (factor[0] + 1, factor[1])),
                       6: (index, (factor[0], factor[1] + 1)), 7: (index, (-factor[0], factor[1])),
                       8: (index, (factor[0] * 2, factor[1]))}[kind]
        yield tuple(tuple(line) for line in lines)


class CutLines(unittest.TestCase):
    def check(self, halves, paper):
        wanted = plain_told(halves, paper)
        if isinstance(wanted, int) or wanted == "all":
            expect(self, BadPaper, cut_lines, halves, paper, index=None if wanted == "all" else wanted)
        else:
            self.assertEqual(cut_lines(halves, paper), wanted)
        return not isinstance(wanted, tuple)

    def test_papers_of_best_and_changed_ones(self):
        chance = random.Random(274)
        bad = good = 0
        for halves in drawn_halves(275, 60) + list(THIN + WITH_POINTS + LONG):
            for goal in ((3, -5), (-50, 7)):
                paper = best(halves, goal)[3]
                self.assertFalse(self.check(halves, paper))
                for changed in changes_of(chance, paper, 8):
                    if self.check(halves, changed):
                        bad += 1
                    else:
                        good += 1
        self.assertGreater(min(bad, good), 200)

    def test_lines_hold_for_all_points(self):
        for halves in drawn_halves(276, 40, (3, 8), (9, 20)):
            if area_of(halves) < 4000:
                points = listed(halves)
                for a, b in cut_lines(halves, best(halves, (7, -4))[3]):
                    self.assertTrue(all(product(a, p) <= b for p in points))

    def test_known(self):
        self.assertEqual(cut_lines(SQUARE, ()), ())
        self.assertEqual(cut_lines(SQUARE, ((),)), (((0, 0), 0),))
        self.assertEqual(cut_lines(SQUARE, ((), ((4, (1, 2)),), ((4, (7, 3)), (5, (1, 5))))), (((0, 0), 0),) * 3)
        self.assertEqual(cut_lines(BOX, (((0, (1, 2)),),)), (((1, 0), 1),))
        self.assertEqual(cut_lines(BOX, (((0, (1, 2)), (2, (1, 3))), ((2, (1, 3)), (4, (2, 1))))), (((1, 1), 1), ((2, 3), 2)))
        self.assertEqual(cut_lines(THIRD, (((0, (1, 3)),), ((1, (1, 3)),), ((4, (1, 1)), (5, (1, 1))))),
                         (((1, 0), 0), ((-1, 0), -1), ((0, 0), -1)))
        self.assertEqual(cut_lines(SQUARE, (((0, (HUGE, 1)), (1, (HUGE, 1))), ((0, (1, HUGE)), (1, (1, HUGE))))),
                         (((0, 0), HUGE), ((0, 0), 0)))
        self.assertEqual(cut_lines((((3, 1), -5), ((-3, 0), 0), ((0, -1), 0)), (((0, (1, 3)), (2, (1, 3))),)), (((1, 0), -2),))
        for halves in EMPTY:
            if len(halves[0][0]) == 2:
                self.assertEqual(cut_lines(halves, (((0, (1, 1)),),)), halves[:1])

    def test_numbers_of_lines_and_pairs(self):
        self.assertEqual(cut_lines(SQUARE, ((),) * 300), (((0, 0), 0),) * 300)
        expect(self, BadPaper, cut_lines, SQUARE, ((),) * 301, index=None)
        expect(self, BadPaper, cut_lines, SQUARE, (None,) * 301, index=None)
        ten = SQUARE * 2 + SQUARE[:2]
        line = tuple((k, (1, 1)) for k in range(10))
        self.assertEqual(cut_lines(ten, (line,)), (((0, 0), 5),))
        eleven = tuple((k, (1, 1)) for k in range(11))
        expect(self, BadPaper, cut_lines, ten, ((), eleven), index=1)
        self.assertEqual(cut_lines(ten, ((), eleven[1:])), (((0, 0), 0), ((-1, 0), 4)))
        # Line after line, each twice the one ahead of it.
        twice = ((((0, (2, 1)),),) + tuple(((3 + k, (2, 1)),) for k in range(1, 300)))
        self.assertEqual(cut_lines(SQUARE, twice)[-1], ((2 ** 300, 0), 2 ** 300))

    def test_wrong_papers(self):
        right = ((0, (1, 1)),)
        for value in KINDS + NUMBERS + ([], [right], {0: right}, "()", None):
            if not isinstance(value, tuple):
                expect(self, BadPaper, cut_lines, SQUARE, value, index=None)
        wrong = KINDS + NUMBERS + (
            [(0, (1, 1))], ((0, (1, 1)), (0, (1, 1))), ((1, (1, 1)), (0, (1, 1))), ((0, (0, 1)),), ((0, (-1, 1)),),
            ((0, (1, -1)),), ((0, (-1, -1)),), ((0, (2, 2)),), ((0, (1, 0)),), ((0, (1, 2)),), ((0, 1),), ((0, (1,)),),
            ((0, [1, 1]),), ([0, (1, 1)],), ((0, (1, 1), 1),), ((0,),), ((-1, (1, 1)),), ((True, (1, 1)),), ((False, (1, 1)),),
            (("0", (1, 1)),), ((None, (1, 1)),), ((0, (True, 1)),), ((0, (1, True)),), ((0, "11"),), ((0, None),),
            ((0, {1: 1}),), {0: (1, 1)}, ((HUGE, (1, 1)),), (((0,), (1, 1)),), ((0, ((1, 1),)),), ((0, (1, 1, 1)),),
            ((0, (1, 3)), (2, (1, 3))), ((0, (2, 3)), (1, (1, 3)), (2, (1, 2))))
        for line in wrong:
            if line == ():
                continue
            expect(self, BadPaper, cut_lines, SQUARE, (line,), index=0)
            expect(self, BadPaper, cut_lines, SQUARE, (right, line, line), index=1)
            expect(self, BadPaper, cut_lines, SQUARE, ((),) * 299 + (line,), index=299)

    def test_index_of_the_line_itself_or_behind_it(self):
        for index in (4, 5, 6, 400):
            expect(self, BadPaper, cut_lines, SQUARE, (((index, (1, 1)),), (), ()), index=0)
        for index in (5, 6, 7):
            expect(self, BadPaper, cut_lines, SQUARE, ((), ((0, (1, 1)), (index, (1, 1))), ()), index=1)
        self.assertEqual(cut_lines(SQUARE, ((), ((0, (1, 1)), (4, (1, 1))))), (((0, 0), 0), ((1, 0), 1)))


class Best(unittest.TestCase):
    def check(self, halves, goal, points):
        kind, value, p, paper = best(halves, goal)
        self.assertTrue(1 <= len(paper) <= 300)
        self.assertTrue(all(len(line) <= 10 for line in paper))
        told = plain_told(halves, paper)
        self.assertIsInstance(told, tuple, (halves, goal))
        if points:
            self.assertEqual((kind, value), ("best", max(product(goal, q) for q in points)), (halves, goal))
            self.assertEqual(product(goal, p), value)
            self.assertTrue(all(product(a, p) <= b for a, b in halves))
            self.assertEqual(told[-1], (goal, value))
        else:
            self.assertEqual((kind, value, p), ("none", (0, 0), (0, 0)), (halves, goal))
            self.assertEqual(told[-1][0], (0, 0))
            self.assertLess(told[-1][1], 0)
        return len(paper)

    def goals(self, chance):
        return [(0, 0), (50, -50), (1, 0)] + [(chance.randint(-50, 50), chance.randint(-50, 50)) for _ in range(3)]

    def test_listing(self):
        chance = random.Random(277)
        found = {}
        for halves in drawn_halves(278, 260, (2, 4, 6, 50), (3, 9, 30)) + list(THIN + WITH_POINTS + LONG):
            if area_of(halves) < 5000:
                points = listed(halves)
                found[min(len(points), 4)] = found.get(min(len(points), 4), 0) + 1
                for goal in self.goals(chance):
                    self.check(halves, goal, points)
        self.assertGreater(min(found[k] for k in range(5)), 5)

    def test_great_sets(self):
        chance = random.Random(279)
        for halves in GREAT + tuple(drawn_halves(280, 60, (3, 50), (1000,))):
            points = rows_of(halves) if corners_by_pairs(halves) else ()
            for goal in self.goals(chance):
                self.check(halves, goal, points)

    def test_long_papers(self):
        # Sets that need many rounds.
        self.assertGreater(self.check(LONG[0], (-50, 40), listed(LONG[0])), 40)
        for k, halves in WEDGES.items():
            self.assertGreaterEqual(self.check(halves, (1, 0), listed(halves)), rounds(halves))
        steep = (((1, 50), 1000), ((1, -50), 951), ((-1, 0), 0))
        for goal in ((1, 0), (50, 1), (49, -50)):
            self.check(steep, goal, listed(steep))

    def test_thin_sets(self):
        for halves in THIN:
            self.assertEqual(listed(halves), ())
            for goal in ((0, 0), (1, 1), (-50, 50)):
                self.check(halves, goal, ())
        for halves in EMPTY:
            if len(halves[0][0]) == 2:
                self.check(halves, (3, -4), ())
        for halves in (ONE, SEGMENT):
            for goal in itertools.product((-7, 0, 1, 50), repeat=2):
                self.check(halves, goal, listed(halves))

    def test_known(self):
        self.assertEqual(best(BOX, (1, 1))[:3], ("best", 1, (1, 0)))
        self.assertEqual(best(SQUARE, (0, 0))[:2], ("best", 0))
        self.assertEqual(best(SQUARE, (50, -50))[:3], ("best", 50, (1, 0)))
        self.assertEqual(best(THIRD, (0, 0))[:3], ("none", (0, 0), (0, 0)))

    def test_equal_arguments_have_answers_that_hold(self):
        for halves in WITH_POINTS[:4]:
            self.assertEqual(best(halves, (2, 6))[:2], best(halves, (2, 6))[:2])
            self.assertEqual(best(halves, (2, 6))[1], 2 * best(halves, (1, 3))[1])

    def test_wrong_goals(self):
        wrong = KINDS + NUMBERS + ((1,), (1, 2, 3), (51, 0), (0, -51), (1, True), (False, 0), (None, 1), (1, "2"), "11", [1, 1],
                                   {1: 1}, (HUGE, 0), ((1, 2),), ((1,), 1), (1, [1]))
        for halves in (SQUARE, THIRD, BOX):
            for goal in wrong:
                expect(self, BadGoal, best, halves, goal)


def clipped(ring, a, b):
    """The part of a ring of corners, fractions, with a * x at most b."""
    found = []
    for p, q in zip(ring[-1:] + ring[:-1], ring):
        one, other = product(a, p) - b, product(a, q) - b
        if one * other < 0:
            share = Fraction(one) / (one - other)
            found.append((p[0] + share * (q[0] - p[0]), p[1] + share * (q[1] - p[1])))
        if other <= 0:
            found.append(q)
    return list(dict.fromkeys(found))


def around(points):
    """Corners in an order around them."""
    middle = (sum(x for x, _ in points) / Fraction(len(points)), sum(y for _, y in points) / Fraction(len(points)))

    def quarter(p):
        x, y = p[0] - middle[0], p[1] - middle[1]
        size = abs(x) + abs(y)
        if size == 0:
            return 0
        return (1 - x / size if y >= 0 else 3 + x / size)

    return sorted(points, key=quarter)


def plain_rounds(halves, bound):
    """The number of rounds with all pairs a of numbers up to a bound; the set is a ring of fractions."""
    ring = around(corners_by_pairs(halves)) if corners_by_pairs(halves) else []
    points = set(corners_among(listed(halves)))
    pairs = [a for a in itertools.product(range(-bound, bound + 1), repeat=2) if gcd(*a) == 1]
    count = 0
    while set(ring) != points:
        count += 1
        limits = [(a, floor(max(product(a, p) for p in ring))) for a in pairs]
        for a, b in limits:
            ring = clipped(ring, a, b)
    return count


class Rounds(unittest.TestCase):
    def test_plain_second_way(self):
        found = {}
        for halves in drawn_halves(281, 200, (2, 3, 4), (3, 9, 14)):
            if area_of(halves) < 900:
                bound = max(abs(x) for a, _ in halves for x in a) + 2
                wanted = plain_rounds(halves, bound)
                found[wanted] = found.get(wanted, 0) + 1
                self.assertEqual(rounds(halves), wanted, halves)
        self.assertGreater(min(found[k] for k in range(3)), 5)

    def test_wedges(self):
        for k, halves in WEDGES.items():
            if k < 6:
                self.assertEqual(rounds(halves), plain_rounds(halves, 2 * k + 1), k)
        self.assertGreaterEqual(rounds(WEDGES[25]), 13)
        tip = (((-1, 0), 0), ((1, -3), 0), ((1, 3), 3))
        self.assertEqual(rounds(tip), plain_rounds(tip, 6))

    def test_known(self):
        self.assertEqual([rounds(halves) for halves in (BOX, SQUARE, ONE, SEGMENT)], [1, 0, 0, 1])
        # Thin sets without points: no round is needed for an empty one, and one for a part of a line.
        self.assertEqual([rounds(halves) for halves in (THIRD, HALF, BETWEEN, SHORT)], [1, 1, 1, 1])
        for halves in EMPTY:
            if len(halves[0][0]) == 2:
                self.assertEqual(rounds(halves), 0)
        whole = (((2, 4), 6), ((-2, -4), -6), ((1, 0), 5), ((-1, 0), 5))
        self.assertEqual([rounds(whole), integer_hull(whole)], [0, ((-5, 4), (5, -1))])

    def test_thin_sets_by_the_second_way(self):
        for halves in THIN + (ONE, SEGMENT):
            if area_of(halves) < 2000 and max(abs(x) for a, _ in halves for x in a) < 10:
                self.assertEqual(rounds(halves), plain_rounds(halves, 10), halves)

    def test_a_set_is_its_hull_exactly_without_rounds(self):
        for halves in drawn_halves(282, 120, (1, 2), (3, 9)):
            corners = corners_by_pairs(halves)
            whole = all(x.denominator == y.denominator == 1 for x, y in corners)
            self.assertEqual(rounds(halves) == 0, whole)

    def test_pairs_with_a_common_divisor_and_repeated_ones(self):
        # The first round tells the same of (2, 0) and 3 as of (1, 0) and 1.
        self.assertEqual(rounds(SQUARE * 2 + SQUARE[:2]), 0)
        self.assertEqual(rounds(SQUARE[1:] + (((2, 0), 3),)), 1)
        self.assertEqual(rounds(SQUARE[1:] + (((2, 0), 2), ((50, 49), 1000))), 0)


class Errors(unittest.TestCase):
    def calls(self):
        """Each function, with right and with wrong further arguments."""
        return ((integer_hull, ()), (rounds, ()), (cut_lines, ((),)), (cut_lines, (None,)), (cut_lines, ((None,),)),
                (best, ((1, 1),)), (best, (None,)), (best, ((51, 0),)))

    def test_bad_halves(self):
        for call, behind in self.calls():
            for value, index in BAD_HALVES:
                expect(self, BadHalves, call, value, *behind, index=index)

    def test_not_plane(self):
        for call, behind in self.calls():
            for value in (UNIT, UNIT * 5, SOLID, SOLID[:2], SOLID + (((1, 1, 1), -1),)):
                expect(self, NotPlane, call, value, *behind)
            # Without an end as well, or empty, but the dimension is told first.
            for value in UNBOUNDED + EMPTY:
                if len(value[0][0]) != 2:
                    expect(self, NotPlane, call, value, *behind)

    def test_unbounded(self):
        for call, behind in self.calls():
            for value in UNBOUNDED:
                if len(value[0][0]) == 2:
                    expect(self, Unbounded, call, value, *behind)

    def test_limits_of_halves(self):
        for call, behind in ((integer_hull, ()), (rounds, ()), (cut_lines, ((),)), (best, ((50, -50),))):
            halves = (((50, 0), 1000), ((-50, 0), 1000), ((0, 50), 1000), ((0, -50), -1000))
            call(halves, *behind)
            call((SQUARE * 3)[:10], *behind)
            for wrong in ((((51, 0), 1),), (((1, 0), 1001),), (((1, 0), -1001),), (((0, 0), 1),)):
                with self.assertRaises(LatticeError) as caught:
                    call(SQUARE + wrong, *behind)
                self.assertEqual((caught.exception.__class__, caught.exception.index), (BadHalves, 4))
