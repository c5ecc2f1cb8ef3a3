"""Points 11 and 12: widths, products and pyramids."""
import itertools
import random
import unittest

from latticepoints.errors import BadShape, Flat, TooMany
from latticepoints.multiples import ehrhart
from latticepoints.polynomials import poly_product
from latticepoints.widths import product, pyramid, width
from tests.faults import BAD_SHAPES, CUBE, FLATS, GOOD_SHAPES, LINE_OF_12, SQUARE, ask_shapes
from tests.plain import det, divisor, moved, poly_value, random_shapes, units_of
from tests.wrong import expect

TRIANGLE = ((0, 0), (1, 0), (0, 1))
SHAPES = (GOOD_SHAPES + tuple(random_shapes(51, 1, 50, 6, 4)) + tuple(random_shapes(52, 2, 4, 30, 8))
          + tuple(random_shapes(53, 2, 50, 10, 12)) + tuple(random_shapes(54, 3, 3, 30, 8))
          + tuple(random_shapes(55, 3, 50, 10, 12)))


def along(shape, a):
    products = [sum(x * y for x, y in zip(a, p)) for p in shape]
    return max(products) - min(products)


def any_thinner(simplex, w):
    """Whether there is a tuple, not all 0, along which d + 1 points have a width below w."""
    ways = [[x - y for x, y in zip(p, simplex[0])] for p in simplex[1:]]
    volume = det(ways)
    # With these products along the ways, the tuple is the sum of the rows times them, over the volume.
    rows = [[det(ways[:k] + [unit] + ways[k + 1:]) for unit in units_of(len(ways))] for k in range(len(ways))]
    for products in itertools.product(range(1 - w, w), repeat=len(ways)):
        if any(products) and max(products + (0,)) - min(products + (0,)) < w:
            if all(sum(x * y for x, y in zip(products, column)) % volume == 0 for column in zip(*rows)):
                return True
    return False


def small_tuples(size, far):
    return [a for a in itertools.product(range(-far, far + 1), repeat=size) if a > (0,) * size]


class Width(unittest.TestCase):
    def check(self, shape):
        told = width(shape)
        self.assertEqual((told.__class__, len(told)), (tuple, 2))
        w, a = told
        self.assertEqual((a.__class__, len(a), {x.__class__ for x in a}), (tuple, len(shape[0]), {int}))
        self.assertTrue(any(a))
        self.assertEqual(along(shape, a), w, shape)
        return w

    def test_none_is_thinner_among_small_ones(self):
        for shape in SHAPES:
            w = self.check(shape)
            far = (3, 12, 4)[len(shape[0]) - 1]
            self.assertLessEqual(w, min(along(shape, a) for a in small_tuples(len(shape[0]), far)), shape)

    def test_maps_keep_it(self):
        # The least tuple of the image is far from small; that of the shape is found by listing.
        maps = (((1, 9, 0), (0, 1, 0), (0, 0, 1)), ((1, 5, 20), (0, 1, 4), (0, 0, 1)), ((1, 0, 0), (7, 1, 0), (-8, -1, 1)),
                ((2, 1, 0), (5, 3, 0), (0, 0, -1)))
        tried = 0
        for shape in random_shapes(56, 2, 2, 20, 6) + random_shapes(57, 3, 1, 30, 6):
            size = len(shape[0])
            wanted = min(along(shape, a) for a in small_tuples(size, 6))
            for rows in maps:
                image = moved(shape, [row[:size] for row in rows[:size]], (0,) * size)
                if max(abs(x) for p in image for x in p) <= 50:
                    tried += 1
                    self.assertEqual(self.check(image), wanted, image)
        self.assertGreater(tried, 150)

    def test_far_tuples(self):
        self.assertEqual(self.check(((0, 0), (50, 49), (49, 48))), 1)
        self.assertEqual(self.check(((0, 0), (50, 49), (-50, -49), (1, 1))), 1)
        self.assertEqual(self.check(((0, 0, 0), (50, 49, 0), (49, 48, 1), (1, 1, 50))), 1)
        self.assertEqual(self.check(((-50, -50, -50), (50, 49, 48), (49, 50, 47), (50, 50, 49))), 2)

    def test_simplices_by_all_products(self):
        # A tuple is told by its products with the ways of a simplex, so all that are thinner can be listed.
        tried = 0
        for shape in random_shapes(59, 2, 50, 60, 3) + random_shapes(60, 3, 50, 100, 4) + random_shapes(61, 3, 3, 60, 4):
            w = self.check(shape)
            if w <= 12:
                tried += 1
                self.assertFalse(any_thinner(shape, w), shape)
        self.assertGreater(tried, 60)

    def test_white(self):
        # Solids with four corners and no other points, of any content, have the width 1.
        for q in range(1, 51):
            for p in range(1, q + 1):
                if divisor((p, q)) == 1:
                    self.assertEqual(self.check(((0, 0, 0), (1, 0, 0), (0, 0, 1), (p, q, 1))), 1)

    def test_known(self):
        self.assertEqual(self.check(((0, 0), (3, 0), (0, 3))), 3)
        self.assertEqual(self.check(((-50,), (50,), (3,))), 100)
        self.assertEqual(self.check(tuple(itertools.product((-50, 50), repeat=3))), 100)
        self.assertEqual(self.check(CUBE), 1)
        self.assertEqual(self.check(((1, 0), (0, 1), (-1, -1))), 2)
        self.assertEqual(self.check(((0, 0, 0), (50, 0, 0), (0, 50, 0), (0, 0, 50))), 50)
        self.assertEqual(self.check(((1, 0, 0), (-1, 0, 0), (0, 1, 0), (0, -1, 0), (0, 0, 1), (0, 0, -1))), 2)

    def test_errors(self):
        ask_shapes(self, expect, BadShape, Flat, width)


class Product(unittest.TestCase):
    pairs = tuple((one, other) for one in SHAPES for other in SHAPES
                  if len(one[0]) + len(other[0]) <= 3 and len(one) * len(other) <= 12)

    def test_all_sums(self):
        self.assertGreater(len(self.pairs), 50)
        for one, other in self.pairs:
            wanted = sorted(set(p + q for p in one for q in other))
            self.assertEqual(product(one, other), tuple(wanted))

    def test_polynomials(self):
        for one, other in self.pairs:
            if max(abs(x) for p in one + other for x in p) <= 4:
                self.assertEqual(ehrhart(product(one, other)), poly_product(ehrhart(one), ehrhart(other)))

    def test_limits(self):
        six, four = LINE_OF_12[:6], SQUARE
        self.assertEqual(len(product(six, ((0,), (9,)))), 12)
        self.assertEqual(len(product(((5,), (-5,), (0,)), four)), 12)
        self.assertEqual(len(product(four, LINE_OF_12[:3])), 12)
        expect(self, TooMany, product, LINE_OF_12[:7], ((0,), (9,)), most=12)
        expect(self, TooMany, product, four, LINE_OF_12[:4], most=12)
        expect(self, TooMany, product, LINE_OF_12, LINE_OF_12, most=12)
        expect(self, TooMany, product, TRIANGLE, TRIANGLE, most=3)
        expect(self, TooMany, product, CUBE, ((0,), (1,)), most=3)
        expect(self, TooMany, product, ((0,), (1,)), CUBE, most=3)
        expect(self, TooMany, product, CUBE, CUBE, most=3)

    def test_errors(self):
        for right in (TRIANGLE, CUBE, LINE_OF_12):
            ask_shapes(self, expect, BadShape, Flat, product, (right,))
            for value, index in BAD_SHAPES:
                expect(self, BadShape, product, right, value, index=index)
            for value in FLATS:
                expect(self, Flat, product, right, value)

    def test_the_left_one_first(self):
        for one in FLATS:
            for other, _ in BAD_SHAPES:
                expect(self, Flat, product, one, other)
        for one, index in BAD_SHAPES:
            expect(self, BadShape, product, one, FLATS[0], index=index)
            expect(self, BadShape, product, one, None, index=index)


class Pyramid(unittest.TestCase):
    def test_points(self):
        self.assertEqual(pyramid(((5,), (-3,), (4,))), ((-3, 0), (0, 1), (4, 0), (5, 0)))
        for shape in SHAPES:
            if len(shape[0]) < 3 and len(shape) < 12:
                top = (0,) * len(shape[0]) + (1,)
                self.assertEqual(pyramid(shape), tuple(sorted([p + (0,) for p in shape] + [top])))

    def test_counts(self):
        for shape in SHAPES:
            if len(shape[0]) < 3 and len(shape) < 12 and max(abs(x) for p in shape for x in p) <= 4:
                poly, flat = ehrhart(pyramid(shape)), ehrhart(shape)
                for n in range(6):
                    self.assertEqual(poly_value(poly, n), 1 + sum(poly_value(flat, k) for k in range(1, n + 1)))

    def test_limits(self):
        self.assertEqual(len(pyramid(LINE_OF_12[:11])), 12)
        expect(self, TooMany, pyramid, LINE_OF_12, most=12)
        expect(self, TooMany, pyramid, tuple(random_twelve()), most=12)
        expect(self, TooMany, pyramid, CUBE, most=3)
        expect(self, TooMany, pyramid, CUBE + ((2, 0, 0), (2, 1, 0), (2, 0, 1), (2, 1, 1)), most=3)

    def test_errors(self):
        ask_shapes(self, expect, BadShape, Flat, pyramid)


def random_twelve():
    return random.Random(58).sample(list(itertools.product(range(-9, 9), repeat=2)), 12)
