"""Point 21: few signed parts of plane cones, and sums of powers."""
import functools
import itertools
import random
import unittest
from fractions import Fraction

from latticepoints.errors import BadGrade, BadNumber, BadPair, BadShape, Flat
from latticepoints.shapes import content
from latticepoints.signed import power_sum, short_parts
from tests.faults import BAD_SHAPES, CUBE, FLATS, GOOD_SHAPES, LINE_OF_12, SQUARE, ask_shapes
from tests.plain import Hull, det, divisor, lagrange, poly_value, random_shapes
from tests.wrong import KINDS, NUMBERS, expect

HUGE = 10 ** 40
GREATEST = 10 ** 9


def drawn_pairs(seed, bound, many):
    chance = random.Random(seed)
    found = []
    while len(found) < many:
        one, other = [(chance.randint(-bound, bound), chance.randint(-bound, bound)) for _ in range(2)]
        if divisor(one) == divisor(other) == 1 and det((one, other)):
            found.append((one, other))
    return found


def fibonacci(most):
    row = [1, 1]
    while row[-1] + row[-2] <= most:
        row.append(row[-1] + row[-2])
    return row


STEEP = fibonacci(GREATEST)
PAIRS = ([((1, 0), (0, 1)), ((0, 1), (1, 0)), ((1, 0), (0, -1)), ((-1, 0), (0, 1)), ((1, 0), (-1, 2)), ((0, 1), (5, -2)),
          ((1, 0), (1, GREATEST)), ((1, 0), (-1, GREATEST)), ((GREATEST, 1), (GREATEST, -1)), ((1, 0), (GREATEST - 1, GREATEST)),
          ((GREATEST, GREATEST - 1), (-GREATEST, GREATEST - 1)), ((GREATEST, GREATEST - 1), (GREATEST - 1, GREATEST - 2)),
          ((GREATEST, 1), (-GREATEST, 1)), ((-GREATEST, GREATEST - 1), (1 - GREATEST, -GREATEST)), ((1, -1), (-1, 2)),
          ((STEEP[-1], STEEP[-2]), (1, 0)), ((STEEP[-1], STEEP[-2]), (0, -1)), ((STEEP[-2], -STEEP[-1]), (STEEP[-1], STEEP[-2]))]
         + drawn_pairs(151, 3, 60) + drawn_pairs(152, 12, 120) + drawn_pairs(153, 1000, 60) + drawn_pairs(154, GREATEST, 120))


def cone_has(u, v, p):
    """Whether p, on no line through 0 and u or v, is in the cone of u and v."""
    side = 1 if det((u, v)) > 0 else -1
    return side * det((u, p)) > 0 and side * det((p, v)) > 0


def between_all_lines(pairs):
    """One point between each two neighbours of all lines through 0 and the pairs, on both sides of 0."""
    rays = list({(sign * x, sign * y) for x, y in pairs for sign in (1, -1)})

    def is_upper(p):
        return (p[1], p[0]) > (0, 0)

    def turn(p, q):
        if is_upper(p) != is_upper(q):
            return -1 if is_upper(p) else 1
        return -det((p, q))
    rays.sort(key=functools.cmp_to_key(turn))
    return [(x + z, y + w) for (x, y), (z, w) in zip(rays, rays[1:] + rays[:1])]


class ShortParts(unittest.TestCase):
    def check(self, one, other):
        told = short_parts(one, other)
        self.assertIs(told.__class__, tuple)
        for triple in told:
            self.assertEqual((triple.__class__, len(triple)), (tuple, 3))
            sign, u, v = triple
            self.assertEqual([x.__class__ for x in (sign, u, v, *u, *v)], [int, tuple, tuple, int, int, int, int])
            self.assertEqual((abs(sign), len(u), len(v), abs(det((u, v)))), (1, 2, 2, 1))
        self.assertLessEqual(len(told), 2 * abs(det((one, other))).bit_length() + 4, (one, other))
        return told

    def test_signs_between_all_lines(self):
        for one, other in PAIRS:
            told = self.check(one, other)
            points = between_all_lines([one, other] + [pair for triple in told for pair in triple[1:]])
            seen = set()
            for p in points:
                wanted = 1 if cone_has(one, other, p) else 0
                seen.add(wanted)
                self.assertEqual(sum(sign for sign, u, v in told if cone_has(u, v, p)), wanted, (one, other, p))
            self.assertEqual(seen, {0, 1})

    def test_signs_at_drawn_points(self):
        chance = random.Random(155)
        for one, other in PAIRS:
            told = self.check(one, other)
            lines = [one, other] + [pair for triple in told for pair in triple[1:]]
            for bound in (3, 50, GREATEST):
                for _ in range(12):
                    p = (chance.randint(-bound, bound), chance.randint(-bound, bound))
                    if all(det((p, line)) for line in lines):
                        wanted = 1 if cone_has(one, other, p) else 0
                        self.assertEqual(sum(sign for sign, u, v in told if cone_has(u, v, p)), wanted)

    def test_all_small_pairs(self):
        small = [p for p in itertools.product(range(-4, 5), repeat=2) if divisor(p) == 1]
        for one, other in itertools.product(small, repeat=2):
            if det((one, other)):
                told = self.check(one, other)
                for p in between_all_lines([one, other] + [pair for triple in told for pair in triple[1:]]):
                    self.assertEqual(sum(sign for sign, u, v in told if cone_has(u, v, p)),
                                     1 if cone_has(one, other, p) else 0, (one, other, p))

    def test_few_for_great_determinants(self):
        for one, other in ((STEEP[-1], STEEP[-2]), (1, 0)), ((GREATEST, 1), (-1, GREATEST)), ((1, GREATEST), (1, -GREATEST)):
            self.assertLessEqual(len(self.check(one, other)), 2 * abs(det((one, other))).bit_length() + 4)
        self.assertGreater(max(len(short_parts(one, other)) for one, other in PAIRS), 25)

    def test_errors(self):
        right = ((1, 0), (1, 2), (GREATEST, -1))
        wrong = KINDS + NUMBERS + ((2, 0), (0, 0), (0, 2), (4, 6), (-3, 3), (GREATEST + 1, 1), (1, -GREATEST - 1), (1, HUGE),
                                   (1,), (1, 0, 0), [1, 0], (True, 0), (1, False), (1, None), ("1", 0), "10", ((1,), 0))
        for value in wrong:
            for pair in right:
                expect(self, BadPair, short_parts, value, pair)
                expect(self, BadPair, short_parts, pair, value)
            expect(self, BadPair, short_parts, value, value)
        for one in right:
            for other in (one, tuple(-x for x in one)):
                expect(self, BadPair, short_parts, one, other)


OCTAHEDRON = ((1, 0, 0), (-1, 0, 0), (0, 1, 0), (0, -1, 0), (0, 0, 1), (0, 0, -1))
SHAPES = (GOOD_SHAPES + (OCTAHEDRON, ((7,), (-3,), (2,)), ((0, 0), (4, 0), (0, 6), (2, 3), (1, 1)),
                         ((0, 0, 0), (1, 0, 0), (0, 1, 0), (1, 1, 5)))
          + tuple(random_shapes(161, 1, 9, 4, 5)) + tuple(random_shapes(162, 2, 4, 10, 8))
          + tuple(random_shapes(163, 3, 2, 8, 6)))
BIG_CUBE = tuple(itertools.product((-50, 50), repeat=3))


def sum_by_listing(shape, a, power, n):
    points = Hull(shape).listed(n) if n else ((0,) * len(a),)
    return sum(sum(x * y for x, y in zip(a, p)) ** power for p in points)


def drawn_weights(seed, size, many):
    chance = random.Random(seed)
    return [(0,) * size, (50,) * size, (1,) + (0,) * (size - 1), (0,) * (size - 1) + (-50,)] + [
        tuple(chance.randint(-9, 9) for _ in range(size)) for _ in range(many)]


class PowerSum(unittest.TestCase):
    def test_against_listing(self):
        for shape in SHAPES:
            hull, size = Hull(shape), len(shape[0])
            for n in range((9, 4, 3)[size - 1]):
                if n and len(list(hull.box(n))) > 500:
                    continue
                points = hull.listed(n) if n else ((0,) * size,)
                for a in drawn_weights(164, size, 3):
                    for power in range(5):
                        wanted = sum(sum(x * y for x, y in zip(a, p)) ** power for p in points)
                        self.assertEqual(power_sum(shape, a, power, n), wanted, (shape, a, power, n))

    def test_great_multiples_against_the_polynomial(self):
        for shape, a in ((SQUARE, (3, -2)), (((0, 0), (2, 1), (-1, 2)), (1, 5)), (((0, 0, 0), (1, 0, 0), (0, 1, 0), (0, 0, 1)), (1, -2, 3)),
                         (((0, 0, 0), (1, 0, 0), (0, 1, 0), (1, 1, 2)), (4, 1, -1)), (((-1,), (2,)), (7,)), (CUBE, (1, 2, -3))):
            size = len(a)
            for power in range(5):
                values = [sum_by_listing(shape, a, power, n) for n in range(size + power + 1)]
                poly = lagrange(range(size + power + 1), values)
                self.assertLessEqual(len(poly), size + power + 1)
                for n in (9, 1000, 987654321, GREATEST):
                    self.assertEqual(power_sum(shape, a, power, n), poly_value(poly, n), (shape, a, power, n))

    def test_power_zero(self):
        for shape in SHAPES:
            size = len(shape[0])
            for a in ((0,) * size, (50,) * size):
                self.assertEqual(power_sum(shape, a, 0, 0), 1)
                counts = [power_sum(shape, a, 0, n) for n in range(size + 1)]
                last = sum((-1) ** (size - k) * x * Fraction(1) * binomial(size, k) for k, x in enumerate(counts))
                self.assertEqual(last, content(shape))
            for power in (1, 2, 3, 4):
                self.assertEqual(power_sum(shape, (7,) * size, power, 0), 0)
                self.assertEqual(power_sum(shape, (0,) * size, power, GREATEST), 0)

    def test_known(self):
        for n in (0, 1, 2, 10, GREATEST):
            self.assertEqual(power_sum(((0,), (1,)), (1,), 1, n), n * (n + 1) // 2)
            self.assertEqual(power_sum(((0,), (1,)), (-1,), 3, n), -(n * (n + 1) // 2) ** 2)
            self.assertEqual(power_sum(((0,), (1,)), (1,), 4, n), n * (n + 1) * (2 * n + 1) * (3 * n * n + 3 * n - 1) // 30)
            self.assertEqual(power_sum(LINE_OF_12, (1,), 2, n), 11 * n * (11 * n + 1) * (22 * n + 1) // 6)
        for n in (1, GREATEST):
            # The sum over a cube around 0 of the second power is that of each axis; odd powers vanish.
            m = 50 * n
            one = m * (m + 1) * (2 * m + 1) // 3
            self.assertEqual(power_sum(BIG_CUBE, (50, -50, 7), 2, n), (2500 + 2500 + 49) * one * (2 * m + 1) ** 2)
            self.assertEqual(power_sum(BIG_CUBE, (50, -50, 7), 3, n), 0)
        n = GREATEST
        m = 50 * n
        one, fourth = m * (m + 1) * (2 * m + 1) // 3, m * (m + 1) * (2 * m + 1) * (3 * m * m + 3 * m - 1) // 15
        wanted = 50 ** 4 * (3 * fourth * (2 * m + 1) ** 2 + 18 * one * one * (2 * m + 1))
        self.assertEqual(power_sum(BIG_CUBE, (50, 50, -50), 4, n), wanted)

    def test_great_shapes(self):
        for shape in random_shapes(165, 2, 50, 2, 6):
            points = Hull(shape).listed(1)
            for a, power in (((50, -49), 4), ((3, 7), 1)):
                self.assertEqual(power_sum(shape, a, power, 1), sum((a[0] * x + a[1] * y) ** power for x, y in points))

    def test_errors(self):
        for behind in (((1, 1), 1, 1), (None, None, None), ((1,), 5, -1)):
            ask_shapes(self, expect, BadShape, Flat, power_sum, behind)
        self.assertTrue(BAD_SHAPES and FLATS)
        for shape in GOOD_SHAPES:
            size = len(shape[0])
            right = (1,) * size
            for behind in ((1, 1), (None, None), (-1, 10 ** 10)):
                for value in KINDS + NUMBERS + ((1,) * (size + 1), (1,) * (size - 1), [1] * size, (True,) * size, (None,) * size,
                                                (51,) * size, (1,) * (size - 1) + (-51,), (HUGE,) * size, ("1",) * size,
                                                ((1,),) * size):
                    expect(self, BadGrade, power_sum, shape, value, *behind)
            for value in KINDS + (-1, 5, HUGE, -HUGE, (1,), (1, 1)):
                for n in (1, None, -1):
                    expect(self, BadNumber, power_sum, shape, right, value, n)
            for value in KINDS + (-1, GREATEST + 1, HUGE, -HUGE, (1,), (1, 1)):
                expect(self, BadNumber, power_sum, shape, right, 4, value)


def binomial(n, k):
    total = Fraction(1)
    for j in range(k):
        total = total * (n - j) / (j + 1)
    return total
