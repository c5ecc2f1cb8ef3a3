"""Points 13 and 14: star numbers, half-open simplices and box points."""
import itertools
import unittest
from math import comb

from latticepoints.errors import BadOpen, BadShape, Flat, NotSimplex, TooMany
from latticepoints.shapes import content
from latticepoints.stars import box_points, half_open, star
from tests.faults import BAD_SHAPES, CUBE, FLATS, GOOD_SHAPES, LINE_OF_12, SQUARE, ask_shapes
from tests.plain import Frame, Hull, all_places, det, moved, random_shapes
from tests.wrong import KINDS, NUMBERS, expect

HUGE = 10 ** 40
OCTAHEDRON = ((1, 0, 0), (-1, 0, 0), (0, 1, 0), (0, -1, 0), (0, 0, 1), (0, 0, -1))
GRID = tuple(itertools.product((0, 1, 2), (0, 1, 2)))
TENT = ((0, 0, 0), (2, 0, 0), (0, 2, 0), (2, 2, 0), (1, 1, 1), (1, 1, 0), (1, 0, 0))
SHAPES = (GOOD_SHAPES + (OCTAHEDRON, GRID, TENT, ((7,), (-3,), (2,)))
          + tuple(random_shapes(71, 1, 9, 6, 5)) + tuple(random_shapes(72, 2, 4, 16, 9))
          + tuple(random_shapes(73, 3, 2, 16, 7)) + tuple(random_shapes(74, 3, 1, 6, 10)))
SMALL = tuple(shape for shape in SHAPES if max(abs(x) for p in shape for x in p) <= 12)
BIG_CUBE = tuple(itertools.product((-50, 50), repeat=3))


def simplices(seed, size, bound, many):
    return random_shapes(seed, size, bound, many, size + 1)


def lifted(points):
    return [(1,) + p for p in points]


class Star(unittest.TestCase):
    def test_counts(self):
        for shape in SMALL:
            numbers, size, hull = star(shape), len(shape[0]), Hull(shape)
            self.assertEqual((numbers.__class__, len(numbers)), (tuple, size + 1))
            self.assertEqual(numbers[0], 1)
            for n in range(1, (12, 6, 5)[size - 1]):
                if len(list(hull.box(n))) <= 500:
                    wanted = sum(h * comb(n - j + size, size) for j, h in enumerate(numbers) if n - j + size >= size)
                    self.assertEqual(wanted, len(hull.listed(n)), (shape, n))

    def test_box_points_by_height(self):
        for shape in SHAPES:
            heights = [0] * (len(shape[0]) + 1)
            for indexes, places in half_open(shape):
                for p in Frame([(1,) + shape[index] for index in indexes]).tile(places):
                    heights[p[0]] += 1
            self.assertEqual(star(shape), tuple(heights), shape)

    def test_sum_and_inner_points(self):
        for shape in SMALL:
            numbers, size, hull = star(shape), len(shape[0]), Hull(shape)
            self.assertEqual(sum(numbers), content(shape))
            self.assertGreaterEqual(min(numbers), 0)
            last = max(j for j in range(size + 1) if numbers[j])
            for n in range(1, size + 2 - last):
                wanted = numbers[last] if n == size + 1 - last else 0
                if len(list(hull.box(n))) <= 800:
                    self.assertEqual(len(hull.inner(n)), wanted, (shape, n))

    def test_lesser_shapes(self):
        for shape in SMALL:
            for k in range(len(shape)):
                lesser = shape[:k] + shape[k + 1:]
                if len(lesser) > 1 and Hull(lesser).simplices:
                    self.assertTrue(all(x <= y for x, y in zip(star(lesser), star(shape))))

    def test_known(self):
        self.assertEqual(star(CUBE), (1, 4, 1, 0))
        self.assertEqual(star(SQUARE), (1, 1, 0))
        self.assertEqual(star(LINE_OF_12), (1, 10))
        self.assertEqual(star(((0, 0, 0), (1, 0, 0), (0, 1, 0), (0, 0, 1))), (1, 0, 0, 0))
        self.assertEqual(star(OCTAHEDRON), (1, 3, 3, 1))
        self.assertEqual(star(((0, 0), (3, 0), (0, 3))), (1, 7, 1))
        self.assertEqual(star(((-50,), (50,))), (1, 99))
        for q in range(2, 51):
            self.assertEqual(star(((0, 0, 0), (1, 0, 0), (0, 1, 0), (1, 1, q))), (1, 0, q - 1, 0))

    def test_limit(self):
        near = (((0, 0, 0), (9, 9, 0), (9, 0, 8), (0, 0, 1)), ((-20, -20), (50, -19), (-19, 50)))
        over = (((0, 0, 0), (9, 9, 0), (9, 0, 9), (0, 9, 9)), ((-20, -20), (50, -20), (-20, 50), (0, 0), (3, -21)))
        for shape in near:
            self.assertEqual(sum(star(shape)), content(shape))
        for shape in over + (BIG_CUBE,):
            expect(self, TooMany, star, shape, most=20000)

    def test_errors(self):
        ask_shapes(self, expect, BadShape, Flat, star)


class HalfOpen(unittest.TestCase):
    def check(self, shape):
        """Check the form, and return the simplices with their frames."""
        told, size = half_open(shape), len(shape[0])
        self.assertIs(told.__class__, tuple)
        framed = []
        for pair in told:
            self.assertEqual((pair.__class__, len(pair)), (tuple, 2))
            indexes, places = pair
            self.assertEqual((indexes.__class__, places.__class__, len(indexes)), (tuple, tuple, size + 1))
            self.assertEqual({x.__class__ for x in indexes + places}, {int})
            self.assertEqual((indexes, places), (tuple(sorted(set(indexes))), tuple(sorted(set(places)))))
            self.assertTrue(set(indexes) <= set(range(len(shape))) and set(places) <= set(range(size + 1)))
            self.assertTrue(det(lifted([shape[index] for index in indexes])))
            framed.append((Frame(lifted([shape[index] for index in indexes])), places))
        return framed

    def test_each_point_in_exactly_one(self):
        inside = outside = 0
        for shape in SMALL:
            framed, hull, size = self.check(shape), Hull(shape), len(shape[0])
            for scale in ((1, 2, 3, 5, 12), (2, 3, 6), (1, 2, 3))[size - 1]:
                ranges = [range(scale * min(column) - 1, scale * max(column) + 2) for column in zip(*shape)]
                points = list(itertools.product(*ranges))
                if len(points) > 1000:
                    continue
                for p in points:
                    found = sum(frame.holds((scale,) + p, places) for frame, places in framed)
                    wanted = hull.holds(p, scale)
                    inside += wanted
                    outside += not wanted
                    self.assertEqual(found, 1 if wanted else 0, (shape, p, scale))
        self.assertGreater(min(inside, outside), 10000)

    def test_contents_add_up(self):
        for shape in SHAPES + (BIG_CUBE,) + tuple(random_shapes(75, 3, 50, 12, 12)) + tuple(random_shapes(76, 2, 50, 12, 12)):
            framed = self.check(shape)
            self.assertEqual(sum(frame.whole for frame, _ in framed), content(shape))
            # Each corner is in exactly one, and so is the middle of all points.
            for p in shape:
                self.assertEqual(sum(frame.holds((1,) + p, places) for frame, places in framed), 1)
            middle = (len(shape),) + tuple(sum(column) for column in zip(*shape))
            self.assertEqual(sum(frame.holds(middle, places) for frame, places in framed), 1)

    def test_points_between_corners(self):
        # Points on the sides that simplices share: the middles of all groups of points.
        for shape in SHAPES + tuple(random_shapes(77, 3, 50, 8, 9)):
            framed = self.check(shape)
            for many in (2, 3, 4):
                for group in list(itertools.combinations(shape, many))[:400]:
                    p = (many,) + tuple(sum(column) for column in zip(*group))
                    self.assertEqual(sum(frame.holds(p, places) for frame, places in framed), 1, (shape, group))

    def test_simplices_are_whole(self):
        for size in (1, 2, 3):
            for shape in simplices(78 + size, size, 9, 10):
                self.assertEqual(half_open(shape), ((tuple(range(size + 1)), ()),))

    def test_errors(self):
        ask_shapes(self, expect, BadShape, Flat, half_open)


class BoxPoints(unittest.TestCase):
    def test_against_listing(self):
        for size, bound, many in ((1, 20, 10), (2, 7, 20), (3, 3, 20)):
            for points in simplices(81 + size, size, bound, many):
                frame = Frame(lifted(points))
                for places in all_places(size + 1):
                    told = box_points(points, places)
                    self.assertEqual(told, tuple(sorted((p[0], p[1:]) for p in frame.tile(places))), (points, places))
                    self.assertEqual(len(told), content(points))

    def test_heights(self):
        for points in simplices(85, 3, 4, 20) + simplices(86, 2, 20, 20):
            size = len(points[0])
            many = [height for height, _ in box_points(points, ())]
            self.assertEqual(tuple(many.count(j) for j in range(size + 1)), star(points))
            # What is open is what the opposite box leaves out.
            whole = (size + 1, tuple(sum(column) for column in zip(*points)))
            turned = sorted((whole[0] - height, tuple(x - y for x, y in zip(whole[1], p)))
                            for height, p in box_points(points, ()))
            self.assertEqual(box_points(points, tuple(range(size + 1))), tuple(turned))

    def test_known(self):
        self.assertEqual(box_points(((0,), (2,)), ()), ((0, (0,)), (1, (1,))))
        self.assertEqual(box_points(((0,), (2,)), (0,)), ((1, (0,)), (1, (1,))))
        self.assertEqual(box_points(((2,), (0,)), (0,)), ((1, (1,)), (1, (2,))))
        self.assertEqual(box_points(((0, 0), (1, 0), (0, 1)), (0, 1, 2)), ((3, (1, 1)),))
        self.assertEqual(box_points(((0, 0), (1, 0), (0, 1)), (1,)), ((1, (1, 0)),))
        self.assertEqual(box_points(((0, 0, 0), (1, 0, 0), (0, 1, 0), (1, 1, 3)), ()),
                         ((0, (0, 0, 0)), (2, (1, 1, 1)), (2, (1, 1, 2))))

    def test_least_and_greatest_numbers(self):
        self.assertEqual(box_points(((-50,), (50,)), ()),
                         ((0, (0,)),) + tuple((1, (k,)) for k in range(-49, 50)))
        plane = ((-50, -50), (50, -50), (-50, 50))
        self.assertEqual(len(box_points(plane, (0, 2))), 10000)
        solid = ((50, 0, 0), (0, 50, 0), (0, 0, 50), (0, 0, 0))
        told = box_points(solid, (3,))
        self.assertEqual(len(told), 125000)
        self.assertEqual((told[0], told[-1]), ((1, (0, 0, 0)), (3, (49, 49, 49))))
        self.assertEqual(list(told), sorted(set(told)))

    def test_moved(self):
        for points in simplices(87, 2, 5, 10):
            image = moved(points, ((2, 3), (1, 1)), (4, -7))
            for places in all_places(3):
                wanted = sorted((height, (2 * x + 3 * y + 4 * height, x + y - 7 * height))
                                for height, (x, y) in box_points(points, places))
                self.assertEqual(box_points(image, places), tuple(wanted))

    def test_errors_of_points(self):
        for behind in (((),), (None,), ((0, 0),)):
            for value, index in BAD_SHAPES:
                expect(self, BadShape, box_points, value, *behind, index=index)
            for value in FLATS:
                right = len(value) == len(value[0]) + 1
                expect(self, Flat if right else NotSimplex, box_points, value, *behind)
            for value in (SQUARE, CUBE, LINE_OF_12, OCTAHEDRON, ((0, 0), (1, 0)), ((0, 0, 0), (1, 0, 0), (0, 1, 0)),
                          ((0, 0), (1, 1), (2, 2), (3, 3))):
                expect(self, NotSimplex, box_points, value, *behind)

    def test_errors_of_places(self):
        wrong = ((0, 0), (1, 0), (0, 1, 1), (-1,), (0, -1), (4,), (0, 4), (HUGE,), (True,), (False, 1), (0, None),
                 ([0],), [0], [], {0: 1}, "01", ("0",), ((0,),), (2, 1, 0), (0, 1, 2, 3, 4))
        for points in (((0, 0, 0), (1, 0, 0), (0, 1, 0), (1, 1, 5)), ((0, 0), (3, 0), (0, 3)), ((4,), (9,))):
            for value in wrong + tuple(kind for kind in KINDS if kind != ()) + NUMBERS:
                expect(self, BadOpen, box_points, points, value)
            size = len(points)
            expect(self, BadOpen, box_points, points, (size,))
            self.assertEqual(len(box_points(points, tuple(range(size)))), content(points))
