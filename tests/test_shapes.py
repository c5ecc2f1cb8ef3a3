"""Points 6 and 7: shapes, their corners, facets, points and contents."""
import itertools
import unittest

from latticepoints.errors import BadNumber, BadPoint, BadShape, Flat, TooMany
from latticepoints.shapes import content, corners, face_numbers, facets, inner_points, place_in, points_in
from tests.faults import CUBE, FLATS, GOOD_SHAPES, LINE_OF_12, SQUARE, ask_shapes
from tests.plain import Hull, det, divisor, hull_facets, in_hull, moved, random_shapes
from tests.wrong import KINDS, NUMBERS, expect

HUGE = 10 ** 40
OCTAHEDRON = ((1, 0, 0), (-1, 0, 0), (0, 1, 0), (0, -1, 0), (0, 0, 1), (0, 0, -1))
PRISM = ((0, 0, 0), (2, 0, 0), (0, 2, 0), (0, 0, 3), (2, 0, 3), (0, 2, 3))
TENT = ((0, 0, 0), (2, 0, 0), (0, 2, 0), (2, 2, 0), (1, 1, 1))
GRID = tuple(itertools.product((0, 1, 2), (0, 1, 2)))
FULL_CUBE = tuple(itertools.product((0, 2), repeat=3)) + ((1, 1, 1), (1, 1, 0), (0, 0, 1), (2, 1, 0))
CUBE_OF_12 = tuple(itertools.product((-50, 50), repeat=3)) + ((50, 0, 0), (0, 0, 0), (1, 50, 50), (0, 0, -50))
SHAPES = (GOOD_SHAPES + (OCTAHEDRON, PRISM, TENT, GRID, FULL_CUBE, CUBE_OF_12, ((7,), (-3,), (2,)))
          + tuple(random_shapes(11, 1, 6, 8, 5)) + tuple(random_shapes(12, 2, 3, 25, 9))
          + tuple(random_shapes(13, 3, 2, 20, 6)) + tuple(random_shapes(16, 3, 2, 2, 9)) + tuple(random_shapes(14, 2, 50, 8, 12))
          + tuple(random_shapes(15, 3, 50, 5, 9)))
SMALL = tuple(shape for shape in SHAPES if max(abs(x) for p in shape for x in p) <= 3)


class Corners(unittest.TestCase):
    def test_against_hulls_of_the_others(self):
        for shape in SHAPES:
            if len(shape) > 9 and len(shape[0]) == 3:
                continue
            wanted = [p for p in shape if not in_hull([q for q in shape if q != p], p)]
            self.assertEqual(corners(shape), tuple(sorted(wanted)), shape)

    def test_points_that_are_no_corners(self):
        self.assertEqual(corners(GRID), ((0, 0), (0, 2), (2, 0), (2, 2)))
        self.assertEqual(corners(FULL_CUBE), tuple(itertools.product((0, 2), repeat=3)))
        self.assertEqual(corners(CUBE_OF_12), tuple(itertools.product((-50, 50), repeat=3)))
        self.assertEqual(corners(LINE_OF_12), ((0,), (11,)))
        self.assertEqual(corners(((0, 0), (4, 0), (0, 4), (1, 1), (2, 2))), ((0, 0), (0, 4), (4, 0)))

    def test_order_of_points_does_not_matter(self):
        for shape in SMALL[::4]:
            for call in (corners, facets, content, face_numbers):
                self.assertEqual(call(shape), call(shape[::-1]))

    def test_errors(self):
        ask_shapes(self, expect, BadShape, Flat, corners)


class Facets(unittest.TestCase):
    def test_against_all_planes(self):
        for shape in SHAPES:
            self.assertEqual(facets(shape), hull_facets(shape), shape)

    def test_definition(self):
        for shape in SHAPES:
            for a, b in facets(shape):
                self.assertEqual(divisor(a), 1)
                ground = [p for p in shape if sum(x * y for x, y in zip(a, p)) == b]
                rows = [[x - y for x, y in zip(p, ground[0])] for p in ground]
                self.assertTrue(any(det([list(a)] + list(group))
                                    for group in itertools.combinations(rows, len(a) - 1)))
                self.assertTrue(all(sum(x * y for x, y in zip(a, p)) <= b for p in shape))

    def test_known(self):
        self.assertEqual(facets(((-50,), (50,))), (((-1,), 50), ((1,), 50)))
        self.assertEqual(facets(SQUARE), (((-1, 0), 0), ((0, -1), 0), ((0, 1), 1), ((1, 0), 1)))
        self.assertEqual(facets(((0, 0), (4, 0), (0, 6))), (((-1, 0), 0), ((0, -1), 0), ((3, 2), 12)))
        self.assertEqual(len(facets(OCTAHEDRON)), 8)
        self.assertEqual(len(facets(FULL_CUBE)), 6)

    def test_errors(self):
        ask_shapes(self, expect, BadShape, Flat, facets)


class Place(unittest.TestCase):
    def test_against_simplices(self):
        for shape in SMALL:
            hull = Hull(shape)
            columns = list(zip(*shape))
            for p in itertools.product(*[range(min(column) - 1, max(column) + 2) for column in columns]):
                self.assertEqual(place_in(shape, p), hull.place(p), (shape, p))

    def test_edges(self):
        square = ((-2, -2), (2, -2), (-2, 2), (2, 2), (0, 0))
        self.assertEqual([place_in(square, p) for p in ((0, 0), (2, 2), (2, 1), (1, 1), (3, 0), (3, 2))],
                         [1, 0, 0, 1, -1, -1])
        self.assertEqual([place_in(((0,), (3,)), (k,)) for k in (-1, 0, 1, 2, 3, 4)], [-1, 0, 1, 1, 0, -1])
        self.assertEqual([place_in(CUBE_OF_12, p) for p in ((50, 50, 50), (49, 49, -49), (0, 50, 0), (0, 0, 51))],
                         [0, 1, 0, -1])

    def test_any_size(self):
        for shape in GOOD_SHAPES:
            for far in (HUGE, -HUGE):
                self.assertEqual(place_in(shape, (far,) * len(shape[0])), -1)

    def test_errors(self):
        ask_shapes(self, expect, BadShape, Flat, place_in, (None,))
        ask_shapes(self, expect, BadShape, Flat, place_in, ((0, 0),))
        for shape in GOOD_SHAPES:
            size = len(shape[0])
            for wrong in KINDS + NUMBERS + ((0,) * (size + 1), (0,) * (size - 1), [0] * size, (None,) * size,
                                            (True,) * size, (0,) * (size - 1) + (False,), "0" * size, ("0",) * size,
                                            ((0,),) * size, (0,) * (size - 1) + ([],)):
                expect(self, BadPoint, place_in, shape, wrong)


class Points(unittest.TestCase):
    def test_against_all_points_of_a_box(self):
        for shape in SMALL:
            hull = Hull(shape)
            for n in (1, 2, 3)[:4 - len(shape[0])]:
                self.assertEqual(points_in(shape, n), hull.listed(n), (shape, n))
                self.assertEqual(inner_points(shape, n), hull.inner(n), (shape, n))

    def test_greatest_multiple(self):
        self.assertEqual(points_in(((1,), (2,)), 1000), tuple((k,) for k in range(1000, 2001)))
        self.assertEqual(inner_points(((1,), (2,)), 1000), tuple((k,) for k in range(1001, 2000)))
        self.assertEqual(points_in(((-1,), (18,)), 1000), tuple((k,) for k in range(-1000, 18001)))
        self.assertEqual(inner_points(((0,), (1,)), 1), ())

    def test_limit_of_the_box(self):
        full = (((0, -7), (7, -7), (0, 50)), 7), (((0, 0, 0), (19, 24, 39), (0, 24, 1), (3, 0, 39)), 1)
        for shape, n in full:
            hull = Hull(shape)
            self.assertEqual(len(list(hull.box(n))), 20000)
            self.assertEqual(points_in(shape, n), hull.listed(n))
            self.assertEqual(len(inner_points(shape, n)), sum(place_in_multiple(shape, n, p) for p in hull.box(n)))
        just_over = ((((0, 0), (11, 0), (0, 7)), 16), (((0,), (20,)), 1000), (((-50,), (50,)), 200),
                     (((0, 0, 0), (1, 0, 0), (0, 29, 0), (0, 0, 49), (0, 0, -7)), 2))
        for shape, n in just_over:
            self.assertEqual(len(list(Hull(shape).box(n))), 20001)
        for shape, n in just_over + ((CUBE_OF_12, 1), (CUBE_OF_12, 1000)):
            for call in (points_in, inner_points):
                expect(self, TooMany, call, shape, n, most=20000)

    def test_box_counts_and_not_the_shape(self):
        thin = ((0, 0), (50, 50), (50, 49))
        self.assertEqual(len(points_in(thin, 2)), len(Hull(thin).listed(2)))
        expect(self, TooMany, points_in, thin, 3, most=20000)
        expect(self, TooMany, inner_points, thin, 3, most=20000)

    def test_errors(self):
        for call in (points_in, inner_points):
            ask_shapes(self, expect, BadShape, Flat, call, (1,))
            ask_shapes(self, expect, BadShape, Flat, call, (None,))
            for shape in GOOD_SHAPES + (CUBE_OF_12,):
                for wrong in KINDS + (0, -1, 1001, HUGE, -HUGE, (1,), (1, 1)):
                    expect(self, BadNumber, call, shape, wrong)


def place_in_multiple(shape, n, p):
    """Whether p is inside of the multiple n, by facets that the tests find themselves."""
    return all(sum(x * y for x, y in zip(a, p)) < n * b for a, b in hull_facets_once(shape))


KNOWN = {}


def hull_facets_once(shape):
    if shape not in KNOWN:
        KNOWN[shape] = hull_facets(shape)
    return KNOWN[shape]


class Content(unittest.TestCase):
    def test_against_counts(self):
        for shape in SMALL:
            if len(shape) > 6 and len(shape[0]) == 3:
                continue
            self.assertEqual(content(shape), Hull(shape).volume(), shape)

    def test_simplices(self):
        for shape in SHAPES:
            if len(shape) == len(shape[0]) + 1:
                ways = [[x - y for x, y in zip(p, shape[0])] for p in shape[1:]]
                self.assertEqual(content(shape), abs(det(ways)))

    def test_known(self):
        self.assertEqual(content(((-50,), (50,), (3,))), 100)
        self.assertEqual(content(CUBE), 6)
        self.assertEqual(content(CUBE_OF_12), 6 * 10 ** 6)
        self.assertEqual(content(OCTAHEDRON), 8)
        self.assertEqual(content(GRID), 8)
        self.assertEqual(content(PRISM), 36)
        self.assertEqual(content(TENT), 8)

    def test_maps_and_shifts_keep_it(self):
        for shape in SMALL:
            size = len(shape[0])
            rows = ((1, 2, -1), (0, 1, 3), (0, 0, -1))[:size]
            image = moved(shape, [row[:size] for row in rows], (5, -6, 7)[:size])
            self.assertEqual(content(image), content(shape))
            self.assertEqual(face_numbers(image), face_numbers(shape))

    def test_errors(self):
        ask_shapes(self, expect, BadShape, Flat, content)


class Faces(unittest.TestCase):
    def test_known(self):
        known = ((LINE_OF_12, (2,)), (((3,), (1,)), (2,)), (GRID, (4, 4)), (((0, 0), (1, 0), (0, 1)), (3, 3)),
                 (CUBE, (8, 12, 6)), (FULL_CUBE, (8, 12, 6)), (OCTAHEDRON, (6, 12, 8)), (PRISM, (6, 9, 5)),
                 (TENT, (5, 8, 5)), (((0, 0, 0), (1, 0, 0), (0, 1, 0), (0, 0, 1)), (4, 6, 4)))
        for shape, numbers in known:
            self.assertEqual(face_numbers(shape), numbers)

    def test_against_plain_ways(self):
        for shape in SHAPES:
            size = len(shape[0])
            if len(shape) > 9:
                continue
            ends = [p for p in shape if not in_hull([q for q in shape if q != p], p)]
            wanted = (len(ends), 0, len(hull_facets(shape)))
            if size == 3:
                wanted = (len(ends), sum(is_edge(ends, pair) for pair in itertools.combinations(ends, 2)), wanted[2])
                self.assertEqual(wanted[0] - wanted[1] + wanted[2], 2)
            self.assertEqual(face_numbers(shape), wanted if size == 3 else (wanted[0], wanted[2])[:size])

    def test_errors(self):
        ask_shapes(self, expect, BadShape, Flat, face_numbers)


def is_edge(ends, pair):
    """Whether the middle of a pair of corners needs both of them."""
    middle = tuple(x + y for x, y in zip(*pair))
    doubled = [tuple(2 * x for x in p) for p in ends]
    ones = [tuple(2 * x for x in p) for p in pair]
    return not any(in_hull([p for p in doubled if p != one], middle) for one in ones)


class Checks(unittest.TestCase):
    def test_the_flats_are_flat(self):
        for shape in FLATS:
            self.assertFalse(any(det([[x - y for x, y in zip(p, group[0])] for p in group[1:]])
                                 for group in itertools.combinations(shape, len(shape[0]) + 1)))
