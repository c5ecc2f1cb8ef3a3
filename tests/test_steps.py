"""Points 25 and 26: steps of fractions, least sums and sails of plane cones, sums of whole parts."""
import functools
import itertools
import random
import unittest
from fractions import Fraction
from math import gcd

from latticepoints.errors import BadNumber, BadPair, BadSteps, TooMany
from latticepoints.steps import floor_sum, from_steps, least_sums, sail, steps
from tests.plain import as_ratio, det
from tests.wrong import KINDS, NUMBERS, expect

HUGE = 10 ** 40
GREATEST = 10 ** 9


def value_of(row):
    value = Fraction(row[-1])
    for step in reversed(row[:-1]):
        value = step - 1 / value
    return value


def drawn_fractions(seed, many):
    chance = random.Random(seed)
    found = []
    while len(found) < many:
        n = chance.randint(2, chance.choice((9, 500, GREATEST)))
        m = chance.randint(1, n - 1)
        if gcd(n, m) == 1:
            found.append((n, m))
    return found


class Steps(unittest.TestCase):
    def test_small_fractions(self):
        for n in range(2, 60):
            for m in range(1, n):
                if gcd(n, m) == 1:
                    row = steps(n, m)
                    self.assertIs(row.__class__, tuple)
                    self.assertGreater(min(row), 1)
                    self.assertEqual(value_of(row), Fraction(n, m))
                    # F. Hirzebruch.
                    self.assertEqual(sum(row) - len(row), sum(steps(n, n - m)) - len(steps(n, n - m)))

    def test_great_fractions(self):
        for n, m in drawn_fractions(251, 300):
            try:
                row = steps(n, m)
            except TooMany:
                row = None
            if row is None or len(row) > 60 or max(row) > 1000:
                continue
            self.assertEqual(value_of(row), Fraction(n, m))
            self.assertEqual(from_steps(row), (n, m))

    def test_there_and_back(self):
        chance = random.Random(252)
        done = 0
        for _ in range(400):
            row = tuple(chance.choice((2, 3, 1000, chance.randint(2, 1000))) for _ in range(chance.randint(1, 12)))
            n, m = from_steps(row)
            self.assertEqual(Fraction(n, m), value_of(row))
            self.assertEqual((n, m), as_ratio(Fraction(n, m)))
            if n <= GREATEST:
                done += 1
                self.assertEqual(steps(n, m), row)
        self.assertGreater(done, 100)

    def test_edges(self):
        self.assertEqual(steps(2, 1), (2,))
        self.assertEqual(steps(GREATEST, 1), (GREATEST,))
        self.assertEqual(steps(GREATEST - 1, 2), (GREATEST // 2, 2))
        self.assertEqual(steps(GREATEST, 31623), tuple(plain_steps(GREATEST, 31623)))
        self.assertEqual(from_steps((2,) * 60), (61, 60))
        self.assertEqual(from_steps((2,)), (2, 1))
        self.assertEqual(from_steps((1000,)), (1000, 1))
        long = from_steps((1000,) * 60)
        self.assertEqual(Fraction(*long), value_of((1000,) * 60))
        self.assertGreater(long[0], 10 ** 179)

    def test_limit(self):
        self.assertEqual(steps(2001, 2000), (2,) * 2000)
        expect(self, TooMany, steps, 2002, 2001, most=2000)
        expect(self, TooMany, steps, GREATEST, GREATEST - 1, most=2000)
        # One step of 3 ahead of steps of 2.
        for many in (1999, 2000):
            n, m = 2 * (many + 1) + 1, many + 1
            self.assertEqual(plain_steps(n, m), [3] + [2] * many)
            if many < 2000:
                self.assertEqual(steps(n, m), (3,) + (2,) * many)
            else:
                expect(self, TooMany, steps, n, m, most=2000)

    def test_errors(self):
        for value in KINDS + (1, 0, -1, -7, GREATEST + 1, HUGE, -HUGE, (7,), "7"):
            for m in (1, 3, None, 0):
                expect(self, BadPair, steps, value, m)
        for value in KINDS + (0, -1, -3, 7, 8, GREATEST, HUGE, -HUGE, (3,), "3"):
            expect(self, BadPair, steps, 7, value)
        for n, m in ((4, 2), (6, 4), (6, 3), (GREATEST, 10), (2, 2), (3, 3), (GREATEST + 1, 1), (2001 * 2, 2000 * 2)):
            expect(self, BadPair, steps, n, m)

    def test_errors_of_rows(self):
        for value in KINDS + NUMBERS + ((1,), (0,), (-2,), (1001,), (2, 1), (1, 2), (2, 1001), (2, True), (True,), [2, 3],
                                        (2,) * 61, "22", (2, None), (2, (3,)), ((2, 3),), {2: 3}, (HUGE,), (2, -HUGE),
                                        (3, "2"), (2, []), (2, {}), (2, 3, 1)):
            expect(self, BadSteps, from_steps, value)


def plain_steps(n, m):
    row = []
    while m:
        row.append(-(-n // m))
        n, m = m, row[-1] * m - n
    return row


def in_cone(one, other, p):
    side = 1 if det((one, other)) > 0 else -1
    return p != (0, 0) and side * det((one, p)) >= 0 and side * det((p, other)) >= 0


def listed_sums(one, other):
    """The points of a cone that are not sums of two others, by listing, in the order in which they are met."""
    far = max(map(abs, one + other))
    points = [p for p in itertools.product(range(-far, far + 1), repeat=2) if in_cone(one, other, p)]
    # One part of a sum, if there is any, is a least one itself, which lies within the reach of both pairs.
    found = [p for p in points if not any(in_cone(one, other, (p[0] - q[0], p[1] - q[1])) for q in points)]
    side = 1 if det((one, other)) > 0 else -1
    return tuple(sorted(found, key=functools.cmp_to_key(lambda p, q: -side * det((p, q)))))


def hull_corners_along(one, other, points):
    """Those points of a cone that are corners of the hull of all of them: some line through them holds all others back."""
    found = []
    for p in points:
        rest = [q for q in points if q != p]
        # No corner: p is in a segment of two others plus directions of the cone.
        if not any(is_above(one, other, p, q, r) for q in rest for r in rest):
            found.append(p)
    return tuple(found)


def is_above(one, other, p, q, r):
    """Whether p is a point of the segment from q to r, plus numbers from 0 on times the cone's pairs."""
    side = 1 if det((one, other)) > 0 else -1
    # p - q - t * (r - q) is in the cone for some t from 0 to 1: two bounds for t.
    low, high = Fraction(0), Fraction(1)
    way, start = (r[0] - q[0], r[1] - q[1]), (p[0] - q[0], p[1] - q[1])
    for factor in (lambda v: side * det((one, v)), lambda v: side * det((v, other))):
        at, by = factor(start), factor(way)
        if by > 0:
            high = min(high, Fraction(at, by))
        elif by < 0:
            low = max(low, Fraction(at, by))
        elif at < 0:
            return False
    return low <= high


def drawn_cones(seed, bound, many):
    chance = random.Random(seed)
    found = []
    while len(found) < many:
        one, other = [(chance.randint(-bound, bound), chance.randint(-bound, bound)) for _ in range(2)]
        if gcd(*one) == gcd(*other) == 1 and det((one, other)):
            found.append((one, other))
    return found


SMALL = [((0, 1), (5, -2)), ((1, 0), (0, 1)), ((1, 0), (-1, 2)), ((1, 0), (-7, 1)), ((1, 0), (-7, 8)), ((0, -1), (-3, 4)),
         ((3, 1), (-3, 2)), ((-8, 1), (8, 1)), ((5, 8), (8, 5)), ((1, 1), (-1, 0)), ((1, 0), (0, -1))]


class Sums(unittest.TestCase):
    def test_listing(self):
        for one, other in SMALL + drawn_cones(253, 8, 40):
            wanted = listed_sums(one, other)
            self.assertEqual(least_sums(one, other), wanted, (one, other))
            self.assertEqual(least_sums(other, one), wanted[::-1], (one, other))

    def test_all_small_cones(self):
        pairs = [p for p in itertools.product(range(-3, 4), repeat=2) if gcd(*p) == 1]
        for one, other in itertools.product(pairs, repeat=2):
            if det((one, other)):
                self.assertEqual(least_sums(one, other), listed_sums(one, other), (one, other))

    def test_sail_is_the_hull(self):
        for one, other in SMALL + drawn_cones(254, 8, 40):
            points = listed_sums(one, other)
            wanted = hull_corners_along(one, other, points)
            self.assertEqual(sail(one, other), wanted, (one, other))
            self.assertEqual(sail(other, one), wanted[::-1], (one, other))

    def test_neighbours(self):
        chance = random.Random(255)
        done = 0
        for one, other in drawn_cones(256, 1000, 150):
            whole = abs(det((one, other)))
            try:
                points = least_sums(one, other)
            except TooMany:
                expect(self, TooMany, sail, one, other, most=2000)
                continue
            done += 1
            self.assertEqual((points[0], points[-1]), (one, other))
            side = 1 if det((one, other)) > 0 else -1
            row = []
            for p, q in zip(points, points[1:]):
                self.assertEqual(det((p, q)), side)
            for p, q, r in zip(points, points[1:], points[2:]):
                times = [(x + z) // y for x, y, z in zip(p, q, r) if y]
                self.assertEqual((p[0] + r[0], p[1] + r[1]), (times[0] * q[0], times[0] * q[1]))
                row.append(times[0])
            if row:
                self.assertGreater(min(row), 1)
                self.assertEqual(value_of(row).numerator, whole)
            corners = [q for q, step in zip(points[1:-1], row) if step >= 3]
            self.assertEqual(sail(one, other), (one, *corners, other))
            self.assertEqual(least_sums(other, one), points[::-1])
            self.assertEqual(sail(other, one), sail(one, other)[::-1])
        self.assertGreater(done, 100)

    def test_steps_of_the_cone(self):
        # With (0, 1) first, the cone of (n, -m) has the steps of n over m.
        for n, m in ((7, 3), (5, 2), (1000, 999), (997, 610), (1000, 1), (2, 1)):
            points = least_sums((0, 1), (n, -m))
            row = tuple((p[0] + r[0]) // q[0] for p, q, r in zip(points, points[1:], points[2:]))
            self.assertEqual(row, steps(n, m))

    def test_limit(self):
        # Steps of 2 only.
        exact = tuple((x, 1) for x in range(-1000, 1000))
        self.assertEqual(len(exact), 2000)
        self.assertEqual(least_sums((-1000, 1), (999, 1)), exact)
        self.assertEqual(least_sums((999, 1), (-1000, 1)), exact[::-1])
        self.assertEqual(sail((-1000, 1), (999, 1)), ((-1000, 1), (999, 1)))
        # 1999 steps, which are not more than 2000, but 2001 points.
        self.assertEqual(plain_steps(2000, 1999), [2] * 1999)
        for one, other in (((-1000, 1), (1000, 1)), ((1000, 1), (-1000, 1)), ((1, 1000), (1, -1000))):
            expect(self, TooMany, least_sums, one, other, most=2000)
            expect(self, TooMany, sail, one, other, most=2000)

    def test_edges(self):
        self.assertEqual(least_sums((1000, 999), (999, 998)), ((1000, 999), (999, 998)))
        self.assertEqual(sail((1000, 999), (999, 998)), ((1000, 999), (999, 998)))
        self.assertEqual(least_sums((1, 0), (0, 1)), ((1, 0), (0, 1)))
        self.assertEqual(least_sums((1, 0), (-999, 1000)), tuple((1 - k, k) for k in range(1001)))
        self.assertEqual(sail((1, 0), (-999, 1000)), ((1, 0), (-999, 1000)))

    def test_errors(self):
        wrong = KINDS + NUMBERS + ((1,), (1, 2, 3), (0, 0), (2, 4), (-3, 3), (0, 2), (0, -2), (1001, 1), (1, -1001), (1, True),
                                   (True, 2), (None, 1), (1, "2"), "12", [1, 2], {1: 2}, (HUGE, 1), (1, -HUGE), (1, (2,)),
                                   (1000, 1000), (1, [2]), ((1, 2),), ((1, 2), (3, 4)))
        for call in (least_sums, sail):
            for value in wrong:
                for other in ((1, 5), (0, 1), None, (2, 2)):
                    expect(self, BadPair, call, value, other)
                    expect(self, BadPair, call, other, value)
            for one, other in (((1, 2), (1, 2)), ((1, 2), (-1, -2)), ((1000, -999), (-1000, 999)), ((0, 1), (0, -1))):
                expect(self, BadPair, call, one, other)


def listed_floors(n, m, a, b):
    return sum((a * i + b) // m for i in range(n))


class FloorSum(unittest.TestCase):
    def test_small_numbers(self):
        for n, m in itertools.product(range(7), range(1, 7)):
            for a, b in itertools.product(range(-9, 10), repeat=2):
                self.assertEqual(floor_sum(n, m, a, b), listed_floors(n, m, a, b), (n, m, a, b))

    def test_listing(self):
        chance = random.Random(257)
        for _ in range(300):
            n, m = chance.randint(0, 400), chance.randint(1, chance.choice((9, 1000, GREATEST)))
            a, b = [chance.randint(-most, most) for most in (chance.choice((9, 1000, GREATEST)), GREATEST)]
            self.assertEqual(floor_sum(n, m, a, b), listed_floors(n, m, a, b), (n, m, a, b))

    def test_split_in_two(self):
        chance = random.Random(258)
        for _ in range(300):
            n, m = chance.randint(2, GREATEST), chance.randint(1, GREATEST)
            a = chance.randint(-GREATEST, GREATEST)
            first = chance.randint(1, n)
            b = chance.randint(-GREATEST, GREATEST)
            # The second part begins at b + a * first, and whole multiples of m go out of the sum.
            rest = (b + a * first) % m
            gone = (b + a * first) // m
            wanted = floor_sum(first, m, a, b) + floor_sum(n - first, m, a, rest) + gone * (n - first)
            self.assertEqual(floor_sum(n, m, a, b), wanted, (n, m, a, b, first))

    def test_backwards(self):
        chance = random.Random(259)
        for _ in range(200):
            n, m, a = chance.randint(1, GREATEST), chance.randint(1, GREATEST), chance.randint(-GREATEST, GREATEST)
            b = chance.randint(-GREATEST, GREATEST)
            last = a * (n - 1) + b
            self.assertEqual(floor_sum(n, m, a, b), floor_sum(n, m, -a, last % m) + last // m * n)

    def test_edges(self):
        for m, a, b in ((1, GREATEST, GREATEST), (GREATEST, -GREATEST, -GREATEST), (1, 0, 0)):
            self.assertEqual(floor_sum(0, m, a, b), 0)
            self.assertEqual(floor_sum(1, m, a, b), b // m)
        pairs = GREATEST * (GREATEST - 1) // 2
        self.assertEqual(floor_sum(GREATEST, 1, GREATEST, GREATEST), GREATEST * pairs + GREATEST * GREATEST)
        self.assertEqual(floor_sum(GREATEST, 1, -GREATEST, -GREATEST), -GREATEST * pairs - GREATEST * GREATEST)
        self.assertEqual(floor_sum(GREATEST, GREATEST, 1, 0), 0)
        self.assertEqual(floor_sum(GREATEST, GREATEST, -1, 0), 1 - GREATEST)
        self.assertEqual(floor_sum(GREATEST, GREATEST, 0, -1), -GREATEST)
        self.assertEqual(floor_sum(GREATEST, GREATEST, GREATEST - 1, 0), pairs - (GREATEST - 1))

    def test_errors(self):
        wrong = KINDS + (HUGE, -HUGE, GREATEST + 1, (1,), [1], "1")
        for n in wrong + (-1,):
            for rest in ((1, 1, 1), (None, 1, 1), (0, "a", [])):
                expect(self, BadNumber, floor_sum, n, *rest)
        for value in wrong + (0, -1):
            expect(self, BadNumber, floor_sum, 3, value, 1, 1)
            expect(self, BadNumber, floor_sum, 0, value, 1, None)
        for value in wrong + (-GREATEST - 1,):
            expect(self, BadNumber, floor_sum, 3, 1, value, 1)
            expect(self, BadNumber, floor_sum, 3, 1, 1, value)
            expect(self, BadNumber, floor_sum, 0, 1, 1, value)
