"""Point 12: points of multiples that part, and normal shapes."""
import itertools
import unittest

from latticepoints.errors import BadNumber, BadShape, Flat, TooMany
from latticepoints.parting import is_normal, unparted
from tests.faults import CUBE, GOOD_SHAPES, LINE_OF_12, SQUARE, ask_shapes
from tests.plain import Hull, random_shapes
from tests.wrong import KINDS, expect

HUGE = 10 ** 40


def empty_solid(q):
    return ((0, 0, 0), (1, 0, 0), (0, 1, 0), (1, 1, q))


PLANE = GOOD_SHAPES[:4] + tuple(random_shapes(61, 1, 9, 6, 4)) + tuple(random_shapes(62, 2, 3, 12, 6))
SOLID = ((CUBE, empty_solid(2), empty_solid(3), empty_solid(5), ((0, 0, 0), (1, 1, 0), (1, 0, 1), (0, 1, 1)))
         + tuple(random_shapes(63, 3, 1, 8, 6)) + tuple(random_shapes(64, 3, 2, 12, 5)))


def sums(points, n):
    """All sums of n points."""
    found = {(0,) * len(points[0])}
    for _ in range(n):
        found = {tuple(x + y for x, y in zip(p, q)) for p in found for q in points}
    return found


def left_over(shape, n):
    hull = Hull(shape)
    parting = sums(hull.listed(1), n)
    return tuple(p for p in hull.listed(n) if p not in parting)


class Unparted(unittest.TestCase):
    def test_against_all_sums(self):
        for shape in PLANE + SOLID:
            for n in (1, 2, 3, 4, 5, 6):
                if len(list(Hull(shape).box(n))) <= 800:
                    self.assertEqual(unparted(shape, n), left_over(shape, n), (shape, n))

    def test_some_are_left(self):
        found = [shape for shape in SOLID if unparted(shape, 2)]
        self.assertGreater(len(found), 5)
        self.assertGreater(len(SOLID) - len(found), 3)

    def test_known(self):
        for q in range(2, 20):
            self.assertEqual(unparted(empty_solid(q), 2), tuple((1, 1, k) for k in range(1, q)))
        for shape in SOLID:
            self.assertEqual(unparted(shape, 1), ())
        for n in range(1, 7):
            self.assertEqual(unparted(CUBE, n), ())
            self.assertEqual(unparted(LINE_OF_12, n), ())
            self.assertEqual(unparted(((0, 0), (7, 3), (2, 5), (-3, 1)), n), ())

    def test_limit(self):
        full = ((0, 0, 0), (13, 0, 0), (0, 13, 13), (13, 12, 13))
        self.assertEqual(unparted(full, 2), left_over(full, 2))
        wide = ((0, 0, 0), (14, 0, 0), (0, 14, 0), (0, 0, 14))
        expect(self, TooMany, unparted, wide, 2, most=20000)
        self.assertEqual(unparted(wide, 1), ())
        expect(self, TooMany, unparted, ((-50, -50, -50), (50, 0, 0), (0, 50, 0), (0, 0, 50)), 1, most=20000)
        expect(self, TooMany, unparted, ((-50, -50), (50, -50), (-50, 50)), 2, most=20000)
        expect(self, TooMany, unparted, ((0, 0), (24, 0), (0, 24)), 6, most=20000)
        self.assertEqual(unparted(((0, 0), (23, 0), (0, 23)), 6), ())

    def test_errors(self):
        for behind in ((2,), (None,), (0,)):
            ask_shapes(self, expect, BadShape, Flat, unparted, behind)
        for shape in GOOD_SHAPES + (((-50, -50, -50), (50, 0, 0), (0, 50, 0), (0, 0, 50)),):
            for wrong in KINDS + (0, -1, 7, HUGE, -HUGE, (1,), (1, 1)):
                expect(self, BadNumber, unparted, shape, wrong)


class Normal(unittest.TestCase):
    def test_segments_and_polygons(self):
        for shape in PLANE + (((-50, -50), (50, -50), (-50, 50)), ((-50,), (50,))):
            self.assertIs(is_normal(shape), True)

    def test_solids(self):
        for shape in SOLID:
            wanted = not any(left_over(shape, n) for n in (2, 3) if len(list(Hull(shape).box(n))) <= 2500)
            self.assertIs(is_normal(shape), wanted, shape)

    def test_known(self):
        self.assertIs(is_normal(CUBE), True)
        self.assertIs(is_normal(empty_solid(1)), True)
        for q in range(2, 51):
            self.assertIs(is_normal(empty_solid(q)), False)
        for shape in SOLID:
            doubled = tuple(tuple(2 * x for x in p) for p in shape)
            self.assertIs(is_normal(doubled), True)
        self.assertIs(is_normal(tuple(itertools.product((0, 5), (0, 3), (-2, 1)))), True)
        self.assertIs(is_normal(tuple(p + (0,) for p in SQUARE) + ((0, 0, 1),)), True)

    def test_limit(self):
        self.assertIs(is_normal(tuple(itertools.product((0, 13), repeat=3))), True)
        expect(self, TooMany, is_normal, tuple(itertools.product((0, 14), repeat=3)), most=20000)
        expect(self, TooMany, is_normal, tuple(itertools.product((-50, 50), repeat=3)), most=20000)

    def test_errors(self):
        ask_shapes(self, expect, BadShape, Flat, is_normal)
