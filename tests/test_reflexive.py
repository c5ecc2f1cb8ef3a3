"""Point 15: reflexive shapes, polars and centers."""
import itertools
import random
import unittest

from latticepoints.errors import BadShape, Flat, NotReflexive, TooMany
from latticepoints.reflexive import center_of, is_reflexive, polar
from latticepoints.shapes import corners, face_numbers, facets
from latticepoints.stars import star
from tests.faults import CUBE, FLATS, GOOD_SHAPES, LINE_OF_12, SQUARE, ask_shapes
from tests.plain import Hull, divisor, hull_facets, moved, random_maps, random_shapes, spans
from tests.wrong import expect

THREE = ((1, 0), (0, 1), (-1, -1))
CROSS = ((1, 0, 0), (-1, 0, 0), (0, 1, 0), (0, -1, 0), (0, 0, 1), (0, 0, -1))
TWICE_CUBE = tuple(itertools.product((-1, 1), repeat=3))
# All ways from one of four corners of a simplex to another one: 12 corners, 14 facets.
ROOTS = tuple(p for p in itertools.product((-1, 0, 1), repeat=3)
              if (sorted(p) in ([-1, 0, 1], [0, 0, 1], [-1, 0, 0])))


def is_reflexive_by_planes(shape):
    return all(b == 1 for _, b in hull_facets(shape))


def is_reflexive_by_points(shape):
    """Whether 0 is the one inner point, and the inner points of each multiple n + 1 are the points of the multiple n."""
    hull = Hull(shape)
    if hull.inner(1) != ((0,) * len(shape[0]),):
        return False
    return all(hull.inner(n + 1) == tuple(p for p in hull.box(n + 1) if hull.holds(p, n)) for n in (1, 2))


def small_shapes(seed, size, many, most):
    """Shapes of some points with numbers from -1 to 1, for 2 dimensions to 2."""
    chance = random.Random(seed)
    far = 2 if size == 2 else 1
    all_points = [p for p in itertools.product(range(-far, far + 1), repeat=size) if divisor(p) == 1]
    found = []
    while len(found) < many:
        points = tuple(chance.sample(all_points, chance.randint(size + 1, most)))
        if spans(points):
            found.append(points)
    return found


SMALL = (((-1,), (1,)), ((0,), (1,)), ((-1,), (2,)), ((1,), (0,), (-1,))) + tuple(
    small_shapes(91, 2, 80, 7) + small_shapes(92, 3, 180, 9))
REFLEXIVE = tuple(shape for shape in SMALL if is_reflexive_by_planes(shape)) + (THREE, CROSS, TWICE_CUBE)


class Reflexive(unittest.TestCase):
    def test_against_planes_and_inner_points(self):
        for shape in SMALL + GOOD_SHAPES:
            if max(abs(x) for p in shape for x in p) <= 11:
                self.assertIs(is_reflexive(shape), is_reflexive_by_planes(shape), shape)
        for shape in SMALL:
            if len(shape[0]) < 3:
                self.assertIs(is_reflexive(shape), is_reflexive_by_points(shape), shape)
        for size in (1, 2, 3):
            many = sum(len(shape[0]) == size for shape in REFLEXIVE)
            self.assertGreaterEqual(many, (2, 10, 10)[size - 1])
            self.assertGreater(sum(len(shape[0]) == size for shape in SMALL) - many, (1, 10, 5)[size - 1])

    def test_known(self):
        for shape in (THREE, CROSS, TWICE_CUBE, ROOTS, ((-1,), (1,)), ((-1,), (0,), (1,))):
            self.assertIs(is_reflexive(shape), True)
        for shape in (((0,), (2,)), ((-1,), (2,)), SQUARE, CUBE, LINE_OF_12, ((-50,), (50,)),
                      ((1, 1, 1), (-1, -1, 1), (-1, 1, -1), (1, -1, -1))[:3] + ((2, -2, -1),),
                      ((2, 0), (0, 2), (-2, -2))):
            self.assertIs(is_reflexive(shape), False)

    def test_points_that_are_no_corners(self):
        self.assertIs(is_reflexive(THREE + ((0, 0),)), True)
        self.assertIs(is_reflexive(TWICE_CUBE + ((0, 0, 0), (1, 0, 0), (0, 1, 1))), True)

    def test_errors(self):
        ask_shapes(self, expect, BadShape, Flat, is_reflexive)


class Polar(unittest.TestCase):
    def test_tuples_of_facets(self):
        for shape in REFLEXIVE:
            self.assertEqual(polar(shape), tuple(a for a, _ in facets(shape)))
            self.assertEqual(polar(shape), tuple(sorted(polar(shape))))

    def test_polar_of_the_polar(self):
        for shape in REFLEXIVE:
            image = polar(shape)
            self.assertTrue(is_reflexive_by_planes(image), shape)
            self.assertEqual(polar(image), corners(shape), shape)

    def test_twelve(self):
        for shape in REFLEXIVE:
            if len(shape[0]) == 2:
                many = 0
                for polygon in (shape, polar(shape)):
                    hull = Hull(polygon)
                    many += sum(hull.place(p) == 0 for p in hull.box(1))
                self.assertEqual(many, 12)

    def test_twenty_four(self):
        tried = 0
        for shape in REFLEXIVE:
            if len(shape[0]) == 3:
                tried += 1
                self.assertEqual(sum(lengths(shape)), 24, shape)
        self.assertGreater(tried, 10)

    def test_known(self):
        self.assertEqual(polar(((-1,), (1,))), ((-1,), (1,)))
        self.assertEqual(polar(CROSS), tuple(sorted(TWICE_CUBE)))
        self.assertEqual(polar(TWICE_CUBE), tuple(sorted(CROSS)))
        self.assertEqual(polar(THREE + ((0, 0),)), ((-2, 1), (1, -2), (1, 1)))

    def test_more_than_twelve_facets(self):
        self.assertEqual(face_numbers(ROOTS), (12, 24, 14))
        expect(self, TooMany, polar, ROOTS, most=12)
        # Some have 12 corners and 12 facets or less.
        wide = tuple(p + (0,) for p in ((1, 0), (1, 1), (0, 1), (-1, 0), (-1, -1), (0, -1))) + ((0, 0, 1), (0, 0, -1))
        self.assertEqual((len(polar(wide)), face_numbers(wide)[2]), (12, 12))
        self.assertEqual(polar(polar(wide)), tuple(sorted(wide)))

    def test_too_many_comes_last(self):
        # More than 12 facets as well, but not reflexive.
        twice = tuple(tuple(2 * x for x in p) for p in ROOTS)
        self.assertEqual(face_numbers(twice)[2], 14)
        expect(self, NotReflexive, polar, twice)
        expect(self, NotReflexive, polar, moved(ROOTS, ((1, 0, 0), (0, 1, 0), (0, 0, 1)), (1, 0, 0)))

    def test_numbers_beyond_those_of_shapes(self):
        # The polar of a long shape may have greater numbers than shapes have.
        rows = ((1, 7, 50), (0, 1, 7), (0, 0, 1))
        image = moved(CROSS, rows, (0, 0, 0))
        self.assertEqual(len(polar(image)), 8)
        self.assertEqual(set(polar(image)), set(a for a, _ in facets(image)))

    def test_errors(self):
        ask_shapes(self, expect, BadShape, Flat, polar)
        for shape in (SQUARE, CUBE, LINE_OF_12, ((0, 0), (3, 0), (0, 3)), ((-1,), (2,))):
            expect(self, NotReflexive, polar, shape)
        for shape in SMALL:
            if not is_reflexive_by_planes(shape):
                expect(self, NotReflexive, polar, shape)


def lengths(shape):
    """For each edge its length times that of the edge of the polar between the two facets at it."""
    ends, sides = corners(shape), facets(shape)
    found = []
    for (a, b), (c, d) in itertools.combinations(sides, 2):
        common = [p for p in ends if sum(x * y for x, y in zip(a, p)) == b and sum(x * y for x, y in zip(c, p)) == d]
        if len(common) == 2:
            found.append(divisor([x - y for x, y in zip(*common)]) * divisor([x - y for x, y in zip(a, c)]))
    return found


class Center(unittest.TestCase):
    def check(self, shape):
        p = center_of(shape)
        if p is not None:
            self.assertEqual((p.__class__, len(p), {x.__class__ for x in p}), (tuple, len(shape[0]), {int}))
            self.assertTrue(is_reflexive_by_planes(moved_back(shape, p)), shape)
        return p

    def test_moved(self):
        for shape in REFLEXIVE:
            for shift in ((0, 0, 0), (5, -7, 12), (-40, 30, 49)):
                image = tuple(tuple(x + s for x, s in zip(p, shift)) for p in shape)
                if max(abs(x) for p in image for x in p) <= 50:
                    self.assertEqual(self.check(image), shift[:len(shape[0])])

    def test_none_where_no_point_is_one(self):
        found = {True: 0, False: 0}
        shapes = random_shapes(93, 2, 2, 60, 6) + random_shapes(94, 3, 1, 30, 7) + random_shapes(95, 3, 2, 40, 4)
        for shape in tuple(shapes) + SMALL:
            hull = Hull(shape)
            wanted = [p for p in hull.inner(1) if is_reflexive_by_planes(moved_back(shape, p))]
            self.assertLessEqual(len(wanted), 1)
            self.assertEqual(self.check(shape), wanted[0] if wanted else None, shape)
            found[bool(wanted)] += 1
        self.assertGreater(min(found.values()), 30)

    def test_equal_star_numbers(self):
        for shape in random_shapes(96, 1, 4, 20, 4) + random_shapes(97, 2, 3, 60, 6) + random_shapes(98, 3, 2, 60, 6):
            numbers = star(shape)
            self.assertIs(center_of(shape) is not None, numbers == numbers[::-1], shape)

    def test_maps_move_it(self):
        for rows, shift in random_maps(99, 30, 2):
            for shape in (THREE, ((0, 0), (4, 0), (0, 2)), ((0, 0), (2, 0), (0, 2), (2, 2))):
                image, p = moved(shape, rows, shift), center_of(shape)
                if max(abs(x) for q in image for x in q) <= 50:
                    self.assertEqual(center_of(image), moved([p], rows, shift)[0])

    def test_known(self):
        self.assertEqual(center_of(((49,), (47,))), (48,))
        self.assertEqual(center_of(((0, 0), (3, 0), (0, 3))), (1, 1))
        self.assertEqual(center_of(((0, 0, 0), (4, 0, 0), (0, 4, 0), (0, 0, 4))), (1, 1, 1))
        self.assertIsNone(center_of(((0, 0, 0), (5, 0, 0), (0, 4, 0), (0, 0, 4))))
        self.assertEqual(center_of(ROOTS), (0, 0, 0))
        for shape in (SQUARE, CUBE, LINE_OF_12, ((-50,), (50,)), tuple(itertools.product((-50, 50), repeat=3))):
            self.assertIsNone(center_of(shape))

    def test_errors(self):
        ask_shapes(self, expect, BadShape, Flat, center_of)
        self.assertTrue(FLATS)


def moved_back(shape, p):
    return tuple(tuple(x - y for x, y in zip(q, p)) for q in shape)
