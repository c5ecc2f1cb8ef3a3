"""Point 17: fine cuts of polygons."""
import itertools
import unittest

from latticepoints.errors import BadShape, Flat, NotPlane, TooMany
from latticepoints.finecuts import fine_cut
from latticepoints.shapes import content
from tests.faults import CUBE, FLATS, LINE_OF_12, SQUARE, ask_shapes
from tests.plain import Hull, det, moved, random_maps, random_shapes
from tests.wrong import expect

FULL = (((0, 0), (20, 0), (0, 10)), ((0, 0), (10, 0), (10, 10), (0, 10)), ((-50, 0), (50, 0), (0, 2)),
        ((-50, -50), (50, -50), (-50, -48)), ((0, 0), (1, 0), (2, 50), (3, 50), (-1, 0)),
        ((-50, 50), (50, -50), (-49, 50), (-49, 49)), ((0, 0), (14, 1), (1, 14), (2, 3)), ((0, 0), (50, 2), (50, 6)))
POLYGONS = ((((0, 0), (1, 0), (0, 1)), SQUARE, ((0, 0), (3, 0), (0, 3)), ((0, 0), (2, 1), (1, 2)),
             ((0, 0), (4, 0), (0, 4), (1, 1), (2, 2), (2, 0)), ((0, 0), (1, 0), (1, 50)), ((0, 0), (0, 50), (1, 0)))
            + FULL + tuple(random_shapes(111, 2, 4, 30, 9)) + tuple(random_shapes(112, 2, 6, 20, 6)))


def area(triangle):
    one, other, third = triangle
    return det(((other[0] - one[0], other[1] - one[1]), (third[0] - one[0], third[1] - one[1])))


def overlap(one, other):
    """Whether two triangles have an inner point in common: no line through two corners of either parts them."""
    for triangle, against in ((one, other), (other, one)):
        for k in range(3):
            start, end, third = triangle[k], triangle[(k + 1) % 3], triangle[(k + 2) % 3]
            side = 1 if area((start, end, third)) > 0 else -1
            if all(side * area((start, end, p)) <= 0 for p in against):
                return False
    return True


class FineCut(unittest.TestCase):
    def check(self, shape):
        told = fine_cut(shape)
        self.assertIs(told.__class__, tuple)
        self.assertEqual(told, tuple(sorted(set(told))))
        for triangle in told:
            self.assertEqual((triangle.__class__, len(triangle)), (tuple, 3))
            self.assertEqual(triangle, tuple(sorted(triangle)))
            self.assertEqual({(p.__class__, len(p), p[0].__class__, p[1].__class__) for p in triangle}, {(tuple, 2, int, int)})
            self.assertEqual(abs(area(triangle)), 1)
        self.assertEqual(len(told), content(shape))
        return told

    def test_contents_and_integer_points(self):
        for shape in POLYGONS:
            if content(shape) > 200:
                expect(self, TooMany, fine_cut, shape, most=200)
                continue
            told, hull = self.check(shape), Hull(shape)
            listed = hull.listed(1)
            # Triangles in the hull, with the content of the hull in all, ...
            self.assertEqual(set(p for triangle in told for p in triangle), set(listed), shape)
            # ... which do not overlap.
            for one, other in itertools.combinations(told, 2):
                self.assertFalse(overlap(one, other), (shape, one, other))

    def test_drawn_maps(self):
        tried = 0
        for shape in POLYGONS[:7]:
            for rows, shift in random_maps(113, 12, 3):
                image = moved(shape, rows, shift)
                if max(abs(x) for p in image for x in p) <= 50:
                    tried += 1
                    self.check(image)
        self.assertGreater(tried, 30)

    def test_known(self):
        self.assertEqual(fine_cut(((0, 0), (1, 0), (0, 1))), (((0, 0), (0, 1), (1, 0)),))
        self.assertEqual(fine_cut(((5, 5), (3, 5), (3, 6))), (((3, 5), (3, 6), (4, 5)), ((3, 6), (4, 5), (5, 5))))
        self.assertEqual(fine_cut(((0, 0), (2, 1), (1, 2))),
                         (((0, 0), (1, 1), (1, 2)), ((0, 0), (1, 1), (2, 1)), ((1, 1), (1, 2), (2, 1))))

    def test_two_hundred(self):
        reached = [shape for shape in FULL if content(shape) == 200]
        self.assertGreaterEqual(len(reached), 4)
        for shape in reached:
            self.assertEqual(len(self.check(shape)), 200)
        just_over = (((0, 0), (3, 0), (0, 50), (-1, 50), (-1, 49)), ((0, 0), (3, 1), (0, 17), (50, 17)))
        for shape in just_over:
            self.assertGreater(content(shape), 200)
            expect(self, TooMany, fine_cut, shape, most=200)

    def test_two_hundred_and_one(self):
        shape = ((0, 0), (3, 0), (1, 50), (0, 50), (0, 1))
        self.assertEqual(content(shape), 200)
        self.check(shape)
        shape = ((0, 0), (3, 0), (1, 50), (0, 50), (-1, 0), (-1, 1))
        self.assertGreater(content(shape), 200)
        expect(self, TooMany, fine_cut, shape, most=200)
        shape = ((0, 0), (4, 1), (-1, 50))
        self.assertEqual(content(shape), 201)
        expect(self, TooMany, fine_cut, shape, most=200)
        expect(self, TooMany, fine_cut, ((-50, -50), (50, -50), (-50, 50)), most=200)
        expect(self, TooMany, fine_cut, ((-50, -50), (50, -50), (-50, 50), (50, 50)), most=200)

    def test_errors(self):
        ask_shapes(self, expect, BadShape, Flat, fine_cut)
        self.assertTrue(FLATS)
        for shape in (LINE_OF_12, ((0,), (1,)), ((-50,), (50,)), CUBE, ((0, 0, 0), (1, 0, 0), (0, 1, 0), (1, 1, 5)),
                      tuple(itertools.product((-50, 50), repeat=3))):
            expect(self, NotPlane, fine_cut, shape)
