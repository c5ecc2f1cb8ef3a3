"""Points 9 and 10: counts in the multiples of shapes and of halves."""
import itertools
import unittest
from fractions import Fraction
from math import ceil, factorial, floor, lcm

from latticepoints.errors import BadHalves, BadNumber, BadShape, Empty, Flat, TooMany, Unbounded
from latticepoints.multiples import border_content, ehrhart, points_of, quasi_count
from latticepoints.shapes import content
from tests.faults import BOX, CUBE, EMPTY, GOOD_SHAPES, LINE_OF_12, UNBOUNDED, UNIT, ask_halves, ask_shapes
from tests.plain import (Hull, corners_by_pairs, fits, listed_halves, moved, poly_value, quasi_value_of, random_halves,
                         random_shapes)
from tests.wrong import KINDS, expect

HUGE = 10 ** 40
OCTAHEDRON = ((1, 0, 0), (-1, 0, 0), (0, 1, 0), (0, -1, 0), (0, 0, 1), (0, 0, -1))
SHAPES = (GOOD_SHAPES + (OCTAHEDRON, ((0, 0), (4, 0), (0, 6), (2, 3), (1, 1)), ((0, 0, 0), (1, 0, 0), (0, 1, 0), (1, 1, 7)))
          + tuple(random_shapes(31, 1, 9, 5, 4)) + tuple(random_shapes(32, 2, 4, 12, 8))
          + tuple(random_shapes(33, 3, 2, 12, 6)))
HALVES = (UNIT, BOX, (((2,), 1), ((-1,), 0)), (((12,), 1), ((-5,), 1)), (((2,), 1), ((-2,), -1)), (((7,), 3), ((-7,), -3)),
          (((1, 1), 0), ((-1, -1), 0), ((3, 0), 1), ((-1, 0), 0)), (((0, -1), 0), ((-1, 2), 0), ((1, 2), 2)),
          (((2, 0), 1), ((-2, 0), -1), ((0, 3), 1), ((0, -3), -1)), (((-1, 0), -1), ((0, -1), -1), ((2, 3), 9)),
          (((-1, 0, 0), 0), ((0, -1, 0), 0), ((0, 0, -1), 0), ((2, 1, 3), 2)),
          (((2, 0, 0), 1), ((-2, 0, 0), -1), ((0, 1, 0), 1), ((0, -1, 0), 0), ((0, 1, 2), 1), ((0, 0, -1), 0)),
          (((1, 1, 1), 1), ((-1, -1, -1), -1), ((-2, 0, 0), 0), ((0, -1, 0), 0), ((0, 0, -1), 0)))


def few(halves, most_period, most_points):
    """Whether the halves have a low period and few points up to three periods."""
    corners = corners_by_pairs(halves)
    period = period_of(corners)
    return period <= most_period and box_size(corners, 3 * period) <= most_points


def period_of(corners):
    return lcm(*[x.denominator for p in corners for x in p])


def box_size(corners, n):
    size = 1
    for column in zip(*corners):
        size *= ceil(n * max(column)) - floor(n * min(column)) + 1
    return size


RANDOM = tuple(halves for seed, size, bound, limit, many in ((41, 1, 5, 5, 12), (42, 2, 3, 3, 30), (43, 3, 2, 2, 25))
               for halves in random_halves(seed, size, bound, limit, many, 5) if few(halves, 12, 20000))


class Ehrhart(unittest.TestCase):
    def test_values(self):
        for shape in SHAPES:
            hull, poly, size = Hull(shape), ehrhart(shape), len(shape[0])
            self.assertEqual(len(poly), size + 1)
            self.assertEqual(poly_value(poly, 0), 1)
            for n in range(1, (20, 5, 5)[size - 1]):
                if len(list(hull.box(n))) <= 1500:
                    self.assertEqual(poly_value(poly, n), len(hull.listed(n)), (shape, n))

    def test_values_at_negative_numbers(self):
        for shape in SHAPES:
            hull, poly, size = Hull(shape), ehrhart(shape), len(shape[0])
            for n in (1, 2, 3)[:4 - size]:
                if len(list(hull.box(n))) <= 3000:
                    self.assertEqual(poly_value(poly, -n) * (-1) ** size, len(hull.inner(n)), (shape, n))

    def test_last_two_numbers(self):
        for shape in SHAPES:
            poly, size = ehrhart(shape), len(shape[0])
            self.assertEqual(Fraction(*poly[-1]), Fraction(content(shape), factorial(size)))
            self.assertEqual(Fraction(*poly[-2]), Fraction(border_content(shape), 2 * factorial(size - 1)))

    def test_known(self):
        self.assertEqual(ehrhart(CUBE), ((1, 1), (3, 1), (3, 1), (1, 1)))
        self.assertEqual(ehrhart(LINE_OF_12), ((1, 1), (11, 1)))
        self.assertEqual(ehrhart(((0, 0, 0), (1, 0, 0), (0, 1, 0), (1, 1, 13))), ((1, 1), (-1, 6), (1, 1), (13, 6)))

    def test_limit(self):
        near = (((0, 0, 0), (9, 9, 0), (9, 0, 8), (0, 0, 1)), ((-20, -20), (50, -19), (-19, 50)), ((-50,), (50,)))
        over = (((0, 0, 0), (9, 9, 0), (9, 0, 9), (0, 9, 9)), ((-20, -20), (50, -20), (-20, 50), (0, 0), (3, -21)))
        for shape in near:
            self.assertEqual(len(ehrhart(shape)), len(shape[0]) + 1)
        for shape in over:
            # The lesser multiples are in the limit.
            self.assertLessEqual(len(list(Hull(shape).box(len(shape[0]) - 1))), 20000)
            expect(self, TooMany, ehrhart, shape, most=20000)
        expect(self, TooMany, ehrhart, tuple(itertools.product((-50, 50), repeat=3)), most=20000)

    def test_errors(self):
        ask_shapes(self, expect, BadShape, Flat, ehrhart)


class Border(unittest.TestCase):
    def test_against_points_on_the_border(self):
        # The points on the border of a polygon; for a solid they are half of its content, and 2 more.
        for shape in SHAPES:
            hull = Hull(shape)
            many = sum(hull.place(p) == 0 for p in hull.box(1))
            wanted = {1: 2, 2: many, 3: 2 * (many - 2)}[len(shape[0])]
            self.assertEqual(border_content(shape), wanted, shape)

    def test_known(self):
        self.assertEqual(border_content(((-50,), (50,), (7,))), 2)
        self.assertEqual(border_content(((0, 0), (50, 0), (0, 50), (10, 10))), 150)
        self.assertEqual(border_content(CUBE), 12)
        self.assertEqual(border_content(OCTAHEDRON), 8)
        # No limit on the number of points here.
        self.assertEqual(border_content(tuple(itertools.product((-50, 50), repeat=3))), 120000)
        self.assertEqual(border_content(tuple(itertools.product((-50, 50), (-50, 0, 50), (-50, 50)))), 120000)

    def test_maps_keep_it(self):
        for shape in SHAPES[-12:]:
            image = moved(shape, ((1, 3, 0), (0, 1, 0), (2, 0, 1)), (5, 6, 7))
            self.assertEqual(border_content(image), border_content(shape))

    def test_errors(self):
        ask_shapes(self, expect, BadShape, Flat, border_content)


class Points(unittest.TestCase):
    def test_against_listing(self):
        for halves in HALVES + RANDOM:
            corners = corners_by_pairs(halves)
            for n in (0, 1, 2, 3, 5, 12):
                if box_size(corners, n) <= 3000:
                    self.assertEqual(points_of(halves, n), listed_halves(halves, n), (halves, n))

    def test_no_multiple(self):
        for halves in HALVES + RANDOM:
            self.assertEqual(points_of(halves, 0), ((0,) * len(halves[0][0]),))

    def test_greatest_multiple(self):
        self.assertEqual(points_of(UNIT, 1000), tuple((k,) for k in range(1001)))
        self.assertEqual(points_of((((7,), 3), ((-7,), -3)), 1000), ())
        self.assertEqual(points_of((((7,), 3), ((-7,), -3)), 994), ((426,),))

    def test_limit_of_the_box(self):
        # 19999.92 ahead: the box goes on to 20000.
        for sign in (1, -1):
            halves = (((25 * sign,), 501), ((-sign,), 0))
            self.assertEqual(len(points_of(halves, 997)), 19980)
            self.assertEqual(len(listed_halves(halves, 998)), 20000)
            expect(self, TooMany, points_of, halves, 998, most=20000)
        full = (((1, 0), 124), ((-1, 0), 0), ((0, 1), 159), ((0, -1), 0))
        self.assertEqual(len(points_of(full, 1)), 20000)
        expect(self, TooMany, points_of, (((1, 0), 176), ((-1, 0), 0), ((0, 1), 112), ((0, -1), 0)), 1, most=20000)
        thin = (((1, 1), 150), ((-1, -1), -150), ((1, 0), 150), ((-1, 0), 0))
        expect(self, TooMany, points_of, thin, 1, most=20000)
        expect(self, TooMany, points_of, (((1, 0, 0), 1000), ((0, 1, 0), 1000), ((0, 0, 1), 1000),
                                          ((-1, -1, -1), 1000)), 1000, most=20000)

    def test_errors(self):
        for behind in ((1,), (None,), (1001,), (0,)):
            ask_halves(self, expect, (BadHalves, Unbounded, Empty), points_of, behind)
        for halves in (UNIT, BOX, (((1, 0), 1000), ((0, 1), 1000), ((-1, -1), 1000))):
            for wrong in KINDS + (-1, 1001, HUGE, -HUGE, (1,), (1, 1)):
                expect(self, BadNumber, points_of, halves, wrong)


class Quasi(unittest.TestCase):
    def counts(self, halves):
        period = period_of(corners_by_pairs(halves))
        size = len(halves[0][0])
        return [len(listed_halves(halves, n)) for n in range(max(3, size + 2) * period)]

    def test_counts_and_least_number_of_items(self):
        for halves in HALVES + RANDOM:
            corners = corners_by_pairs(halves)
            if not few(halves, 60, 4000):
                continue
            counts, quasi = self.counts(halves), quasi_count(halves)
            self.assertEqual([quasi_value_of(quasi, n) for n in range(len(counts))], counts, halves)
            self.assertEqual(period_of(corners) % len(quasi), 0)
            for less in range(1, len(quasi)):
                self.assertFalse(fits(counts, less, len(halves[0][0])), (halves, less))

    def test_values_at_negative_numbers(self):
        tried = 0
        for halves in HALVES + RANDOM:
            corners, size = corners_by_pairs(halves), len(halves[0][0])
            scale = period_of(corners)
            whole = [tuple(int(scale * x) for x in p) for p in corners]
            if len(whole) <= size or not Hull(whole).simplices:
                continue
            quasi = quasi_count(halves)
            for n in range(1, 2 * len(quasi) + 2):
                if box_size(corners, n) <= 2000:
                    tried += 1
                    wanted = len(listed_halves(halves, n, 1))
                    self.assertEqual(quasi_value_of(quasi, -n) * (-1) ** size, wanted, (halves, n))
        self.assertGreater(tried, 60)

    def test_known(self):
        self.assertEqual(quasi_count(UNIT), (((1, 1), (1, 1)),))
        self.assertEqual(quasi_count((((2,), 1), ((-2,), -1))), (((1, 1),), ()))
        # Corners with halves, but the counts are those of a polynomial.
        self.assertEqual(quasi_count((((0, -1), 0), ((-1, 2), 0), ((1, 2), 2))), (((1, 1), (3, 2), (1, 2)),))

    def test_sixty(self):
        quasi = quasi_count((((12,), 1), ((-5,), 1)))
        self.assertEqual(len(quasi), 60)
        self.assertEqual([quasi_value_of(quasi, n) for n in range(300)], [n // 12 + n // 5 + 1 for n in range(300)])
        quasi = quasi_count((((12, 0), 1), ((-5, 0), 1), ((0, 1), 0), ((0, -1), 1)))
        self.assertEqual([quasi_value_of(quasi, n) for n in range(300)],
                         [(n // 12 + n // 5 + 1) * (n + 1) for n in range(300)])
        for halves in ((((7,), 1), ((-9,), 1)), (((50,), 1), ((-49,), 1)), (((47, 0), 1), ((-1, 0), 0), ((0, 2), 1), ((0, -1), 0)),
                       (((8, 0, 0), 1), ((0, 9, 0), 1), ((0, 0, 1), 1), ((-1, -1, -1), 0))):
            self.assertGreater(period_of(corners_by_pairs(halves)), 60)
            expect(self, TooMany, quasi_count, halves, most=60)

    def test_odd_periods(self):
        for one, other in ((49, 1), (1, 47), (9, 5), (11, 5), (19, 3)):
            quasi = quasi_count((((one,), 1), ((-other,), 1)))
            self.assertEqual(len(quasi), one * other)
            self.assertEqual([quasi_value_of(quasi, n) for n in range(200)],
                             [n // one + n // other + 1 for n in range(200)])

    def test_limit_of_the_boxes(self):
        seen = set()
        for far in (1, 80, 117, 118, 119, 133, 200, 418, 419, 422, 423, 424, 426, 1000):
            for halves in ((((12,), 997), ((-5,), far)), (((1, 0), far), ((-2, 0), 1), ((0, 2), 35), ((0, -1), 0)),
                           (((1, 0, 0), far), ((-1, 0, 0), 0), ((0, 2, 0), 1), ((0, -2, 0), -1), ((0, 0, 1), 7),
                            ((0, 0, -1), 1))):
                corners, size = corners_by_pairs(halves), len(halves[0][0])
                period = period_of(corners)
                over = any(box_size(corners, n) > 20000 for n in range(period * (size + 1)))
                seen.add((size, over))
                if over:
                    expect(self, TooMany, quasi_count, halves, most=20000)
                else:
                    self.assertEqual(period % len(quasi_count(halves)), 0)
        self.assertEqual(len(seen), 6)

    def test_sixty_one(self):
        halves = (((6, 5), 1), ((-5, 6), 4), ((0, -1), 1))
        self.assertEqual(period_of(corners_by_pairs(halves)), 61)
        expect(self, TooMany, quasi_count, halves, most=60)

    def test_period_is_told_ahead_of_the_boxes(self):
        expect(self, TooMany, quasi_count, (((49,), 1000), ((-50,), 999)), most=60)
        expect(self, TooMany, quasi_count, (((49, 0), 1000), ((-3, 0), 1000), ((0, 1), 1000), ((0, -1), 1000)), most=60)

    def test_errors(self):
        ask_halves(self, expect, (BadHalves, Unbounded, Empty), quasi_count)
        self.assertTrue(UNBOUNDED and EMPTY)
