"""Points 4 and 5: lattices of rows, and equations in integers."""
import itertools
import random
import unittest
from fractions import Fraction

from latticepoints.equations import completed, hermite, shows, solve
from latticepoints.errors import BadGoal, BadRows, BadVector
from tests.plain import as_fraction, det, divisor
from tests.wrong import KINDS, NUMBERS, expect

WRONG_ROWS = KINDS + NUMBERS + (
    (1, 2), ((),), ((1,), ()), ((1,),) * 7, ((1,) * 7,), ((1, 2), (3,)), ((1,), (2, 3)), ((1001,),), ((-1001,),),
    ((0, 1), (2, 1001)), ((True,),), ((1, 2), (3, None)), [(1, 2)], ([1, 2],), ((1, 2), 3), (((1,),),), (("1",),),
    (({},),), ("12",))


def some_rows(seed, many):
    chance = random.Random(seed)
    for _ in range(many):
        size, count = chance.randint(1, 6), chance.randint(1, 6)
        bound = chance.choice((1, 2, 6, 30, 1000))
        rows = [tuple(chance.randint(-bound, bound) for _ in range(size)) for _ in range(count)]
        if chance.random() < 0.4:
            rows[chance.randrange(count)] = rows[0]
        if chance.random() < 0.2:
            rows[chance.randrange(count)] = (0,) * size
        if chance.random() < 0.3:
            rows = [tuple(x - x % 6 if x >= 0 else x + -x % 6 for x in row) for row in rows]
        yield tuple(rows)


def lead(row):
    return next(k for k, x in enumerate(row) if x)


def has_form(rows):
    """Whether rows have leads as the document says."""
    if not all(any(row) for row in rows):
        return False
    leads = [lead(row) for row in rows]
    if leads != sorted(set(leads)) or any(row[k] <= 0 for row, k in zip(rows, leads)):
        return False
    return all(0 <= rows[j][k] < rows[i][k] for i, k in enumerate(leads) for j in range(i))


def rest_of(basis, vector):
    """The vector less multiples of the rows with leads; 0 if and only if it is in their lattice."""
    for row in basis:
        factor = vector[lead(row)] // row[lead(row)]
        vector = tuple(x - factor * y for x, y in zip(vector, row))
    return vector


def minors(rows, rank):
    """The common divisor of all determinants of so many rows and columns."""
    columns = range(len(rows[0]))
    return divisor(det([[row[k] for k in pick] for row in group])
                   for group in itertools.combinations(rows, rank)
                   for pick in itertools.combinations(columns, rank))


class Hermite(unittest.TestCase):
    def test_form_and_lattice(self):
        for rows in some_rows(5, 120):
            basis = hermite(rows)
            self.assertIsInstance(basis, tuple)
            self.assertTrue(has_form(basis), rows)
            for row in rows:
                self.assertFalse(any(rest_of(basis, row)), rows)
            # The rows are in the lattice of the basis; so it is theirs if the minors have the same divisor.
            if basis:
                self.assertEqual(minors(rows, len(basis)), minors(basis, len(basis)), rows)

    def test_one_form_for_one_lattice(self):
        chance = random.Random(6)
        for rows in some_rows(7, 60):
            if max(abs(x) for row in rows for x in row) > 100:
                continue
            turned = [list(row) for row in rows]
            chance.shuffle(turned)
            turned[0] = [-x for x in turned[0]]
            for k in range(1, len(turned)):
                turned[k] = [x + 2 * y for x, y in zip(turned[k], turned[k - 1])]
            self.assertEqual(hermite(tuple(map(tuple, turned))), hermite(rows))

    def test_edges(self):
        self.assertEqual(hermite(((0,),)), ())
        self.assertEqual(hermite(((0,) * 6,) * 6), ())
        self.assertEqual(hermite(((-1000,), (1000,))), ((1000,),))
        self.assertEqual(hermite(((0, -3, 5),)), ((0, 3, -5),))
        self.assertEqual(hermite(((0, 0), (1000, -1000))), ((1000, -1000),))
        self.assertEqual(hermite(((2, 3), (0, 2))), ((2, 1), (0, 2)))
        self.assertEqual(hermite(((1, -1), (0, 3))), ((1, 2), (0, 3)))

    def test_wrong_rows(self):
        for wrong in WRONG_ROWS:
            expect(self, BadRows, hermite, wrong)


class Completed(unittest.TestCase):
    def check(self, vector):
        rows = completed(vector)
        self.assertEqual(rows[0], vector)
        self.assertEqual([len(row) for row in rows], [len(vector)] * len(vector))
        self.assertEqual((rows.__class__, {row.__class__ for row in rows}), (tuple, {tuple}))
        self.assertEqual(det(rows), 1, vector)
        # They are rows in the sense of the document, which limits their numbers.
        self.assertEqual(hermite(rows), hermite(tuple(tuple(int(j == k) for j in range(len(vector)))
                                                      for k in range(len(vector)))))

    def test_small(self):
        for size in (1, 2, 3, 4):
            for vector in itertools.product(range(-3, 4), repeat=size):
                if divisor(vector) == 1 and vector != (-1,):
                    self.check(vector)

    def test_great(self):
        chance = random.Random(8)
        found = 0
        while found < 300:
            vector = tuple(chance.randint(-1000, 1000) for _ in range(chance.randint(2, 4)))
            if divisor(vector) == 1:
                found += 1
                self.check(vector)
        for vector in ((1000, 999), (-1000, -999, 1000), (0, 0, 0, -1), (0, 0, 0, 1), (1000, 1000, 1000, 1),
                       (-1, 0), (0, -1), (6, 10, 15), (-1000, 1000, 999, -1000)):
            self.check(vector)

    def test_one_number(self):
        self.assertEqual(completed((1,)), ((1,),))
        expect(self, BadVector, completed, (-1,))

    def test_wrong_vectors(self):
        for wrong in KINDS + NUMBERS + ((0,), (2,), (-2,), (0, 0), (2, 4), (0, 2), (6, 10, 14), (1, 1, 1, 1, 1),
                                        (1, 1001), (-1001, 1), (1, True), (1, "a"), [1, 2], (1, 2, None), ((1, 2),)):
            expect(self, BadVector, completed, wrong)


def fits(rows, x):
    return tuple(sum(a * b for a, b in zip(x, column)) for column in zip(*rows))


class Solve(unittest.TestCase):
    def check(self, rows, goal):
        kind, value = solve(rows, goal)
        if kind == "solution":
            self.assertEqual(len(value), len(rows))
            self.assertTrue(all(x.__class__ is int for x in value))
            self.assertEqual(fits(rows, value), goal)
        else:
            self.assertEqual(kind, "mixture")
            self.assertEqual(len(value), len(goal))
            for top, bottom in value:
                self.assertTrue(bottom > 0 and Fraction(top, bottom).denominator == bottom)
            mixed = [sum(x * as_fraction(y) for x, y in zip(row, value)) for row in rows + (goal,)]
            self.assertTrue(all(x.denominator == 1 for x in mixed[:-1]), (rows, goal))
            self.assertNotEqual(mixed[-1].denominator, 1, (rows, goal))
        self.assertIs(shows(rows, goal, (kind, value)), True)
        return kind

    def test_random(self):
        chance = random.Random(9)
        kinds = []
        for rows in some_rows(10, 400):
            size = len(rows[0])
            goals = [tuple(chance.randint(-8, 8) for _ in range(size)), (0,) * size]
            near = fits(rows, [chance.randint(-2, 2) for _ in rows])
            if max(abs(x) for x in near) <= 999:
                goals += [near, (near[0] + 1,) + near[1:], near[:-1] + (near[-1] - 1,)]
                self.assertEqual(self.check(rows, near), "solution")
            kinds += [self.check(rows, goal) for goal in goals]
        self.assertGreater(kinds.count("solution"), 300)
        self.assertGreater(kinds.count("mixture"), 300)

    def test_small_ones_by_listing(self):
        for rows in itertools.product(itertools.product((-2, 0, 3), repeat=2), repeat=2):
            sums = {fits(rows, x) for x in itertools.product(range(-14, 15), repeat=2)}
            for goal in itertools.product((-2, 0, 1, 3), repeat=2):
                self.assertEqual(self.check(rows, goal) == "solution", goal in sums, (rows, goal))

    def test_edges(self):
        self.assertEqual(solve(((0,),), (0,))[0], "solution")
        self.assertEqual(self.check(((0, 0),) * 6, (0, 1)), "mixture")
        self.assertEqual(self.check(((1000,) * 6,) * 6, (-1000,) * 6), "solution")
        self.assertEqual(self.check(((1000,) * 6,) * 6, (-1000,) * 5 + (-999,)), "mixture")
        self.assertEqual(self.check(((6,), (10,), (15,)), (1,)), "solution")

    def test_wrong_arguments(self):
        for wrong in WRONG_ROWS:
            expect(self, BadRows, solve, wrong, (1, 2))
            expect(self, BadRows, solve, wrong, None)
            expect(self, BadRows, shows, wrong, None, None)
        for wrong in KINDS + NUMBERS + ((1,), (1, 2, 3), (1, 1001), (-1001, 1), (1, True), (1, None), [1, 2], "12",
                                        ((1, 2),), ((1, 2), (3, 4))):
            expect(self, BadGoal, solve, ((1, 2), (3, 4), (5, 6)), wrong)
            expect(self, BadGoal, shows, ((1, 2), (3, 4), (5, 6)), wrong, None)


class Shows(unittest.TestCase):
    rows, goal = ((2, 0), (0, 3), (2, 3)), (4, 3)

    def test_solutions(self):
        for x in itertools.product(range(-4, 5), repeat=3):
            self.assertIs(shows(self.rows, self.goal, ("solution", x)), fits(self.rows, x) == self.goal)
        huge = 10 ** 30
        self.assertIs(shows(self.rows, self.goal, ("solution", (2 - huge, 1 - huge, huge))), True)

    def test_mixtures(self):
        goal = (3, 3)
        for tops in itertools.product(range(-6, 7), repeat=2):
            for bottoms in itertools.product((1, 2, 3, 4, 6), repeat=2):
                y = tuple(zip(tops, bottoms))
                halves = [Fraction(*part) for part in y]
                if any(part.denominator != bottom for part, bottom in zip(halves, bottoms)):
                    wanted = False
                else:
                    mixed = [sum(a * b for a, b in zip(row, halves)) for row in self.rows + (goal,)]
                    wanted = all(x.denominator == 1 for x in mixed[:-1]) and mixed[-1].denominator != 1
                self.assertIs(shows(self.rows, goal, ("mixture", y)), wanted, y)
        self.assertIs(shows(self.rows, goal, ("mixture", ((1, 2), (0, 1)))), True)

    def test_every_value_is_judged(self):
        right = (2, 1, 0)
        for value in KINDS + NUMBERS + (
                ("solution",), ("solution", right, 0), ("solution", list(right)), ["solution", right],
                ("solution", (2, True, 0)), ("solution", (2, 1, False)), ("solution", (2, 1)),
                ("solution", right + (0,)), ("solution", (2, 1, None)), ("solution", ((2, 1), (1, 1), (0, 1))),
                ("solution", ()), ("solution", 3), ("solution", {}), ("solution", "210"), ("mixture", right),
                ("mixture", ()), ("mixture", None), ("mixture", ((1, 2),)), ("mixture", ((1, 2), (0, 1), (0, 1))),
                ("mixture", ((1, 2), None)), ("mixture", (((1, 2),), (0, 1))), ("mixture", [(1, 2), (0, 1)]),
                ("mixture", ((1, 2), (0, True))), (True, right), (None, right), ("Solution", right), ("", right),
                ({}, right), ([], right), (("solution",), right), (right, "solution"), {"solution": right}):
            self.assertIs(shows(self.rows, self.goal, value), False, value)
            self.assertIs(shows(self.rows, (3, 3), value), False, value)
        self.assertIs(shows(self.rows, self.goal, ("solution", right)), True)
