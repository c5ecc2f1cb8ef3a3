"""Points 20 and 21: cones at corners, parts of determinant 1 or -1, and counts."""
import itertools
import random
import unittest
from math import comb

from latticepoints.brion import corner_cones, count_by_cones, unimodular_parts
from latticepoints.cones import series_value
from latticepoints.errors import BadCone, BadNumber, BadShape, Flat
from latticepoints.multiples import ehrhart
from latticepoints.shapes import content, corners
from tests.faults import CUBE, GOOD_SHAPES, LINE_OF_12, SQUARE, ask_shapes
from tests.plain import (Hull, all_places, as_fraction, cone_holds, det, divisor, hull_facets, lagrange, poly_value,
                         power_of, random_cones, random_shapes, series_by_listing)
from tests.test_cones import BAD_CONES, CONES, drawn_factors
from tests.wrong import KINDS, expect

HUGE = 10 ** 40
GREATEST = 10 ** 9
OCTAHEDRON = ((1, 0, 0), (-1, 0, 0), (0, 1, 0), (0, -1, 0), (0, 0, 1), (0, 0, -1))
TENT = ((0, 0, 0), (2, 0, 0), (0, 2, 0), (2, 2, 0), (1, 1, 1), (1, 1, 0), (1, 0, 0))
BIG_CUBE = tuple(itertools.product((-50, 50), repeat=3))
# A corner at which eight sides meet, and one of them is cut once more by a point that is no corner.
STAR = ((0, 0, 3),) + tuple((x, y, 0) for x, y in ((2, 1), (1, 2), (-1, 2), (-2, 1), (-2, -1), (-1, -2), (1, -2), (2, -1),
                                                   (0, 0)))
SHAPES = (GOOD_SHAPES + (OCTAHEDRON, TENT, STAR, ((7,), (-3,), (2,)), ((0, 0), (4, 0), (0, 6), (2, 3), (1, 1)))
          + tuple(random_shapes(131, 1, 9, 4, 5)) + tuple(random_shapes(132, 2, 4, 16, 9))
          + tuple(random_shapes(133, 3, 2, 12, 7)) + tuple(random_shapes(134, 3, 1, 6, 10)))
BIG_SHAPES = (BIG_CUBE,) + tuple(random_shapes(135, 2, 50, 10, 12)) + tuple(random_shapes(136, 3, 50, 10, 12))


def around(p, far, scale):
    return itertools.product(*[range(scale * x - far, scale * x + far + 1) for x in p])


class Form(unittest.TestCase):
    def check_cone(self, cone):
        self.assertEqual((cone.__class__, len(cone)), (tuple, 3))
        apex, vectors, places = cone
        size = len(apex)
        self.assertEqual([x.__class__ for x in (apex, vectors, places) + vectors], [tuple] * (3 + size))
        self.assertEqual([len(vector) for vector in vectors], [size] * size)
        self.assertEqual({x.__class__ for x in sum(vectors, apex + places)}, {int})
        self.assertEqual(places, tuple(sorted(set(places) & set(range(size)))))
        self.assertEqual([divisor(vector) for vector in vectors], [1] * size)
        self.assertNotEqual(det(vectors), 0)


class CornerCones(Form):
    def by_corner(self, shape):
        told = corner_cones(shape)
        self.assertIs(told.__class__, tuple)
        cones = {p: [] for p in corners(shape)}
        for cone in told:
            self.check_cone(cone)
            cones[cone[0]].append(cone)
        return cones

    def test_each_point_in_exactly_one(self):
        found = {True: 0, False: 0}
        for shape in SHAPES + BIG_SHAPES[1:]:
            sides = hull_facets(shape)
            for p, cones in self.by_corner(shape).items():
                mine = [(a, b) for a, b in sides if sum(x * y for x, y in zip(a, p)) == b]
                for scale, far in (((1, 12), (5, 12)), ((1, 5), (3, 7)), ((1, 2), (2, 3)))[len(p) - 1]:
                    for x in around(p, far, scale):
                        wanted = all(sum(y * z for y, z in zip(a, x)) <= scale * b for a, b in mine)
                        many = sum(cone_holds(cone, x, scale) for cone in cones)
                        self.assertEqual(many, 1 if wanted else 0, (shape, p, x, scale))
                        found[wanted] += 1
        self.assertGreater(min(found.values()), 3000)

    def test_edges_and_walls(self):
        # Points on the ways to all points, and between them: on the walls where cones meet; and opposite to these.
        for shape in SHAPES + BIG_SHAPES:
            sides = hull_facets(shape)
            for p, cones in self.by_corner(shape).items():
                mine = [(a, b) for a, b in sides if sum(x * y for x, y in zip(a, p)) == b]
                for many in (1, 2, 3):
                    for group in list(itertools.combinations_with_replacement(shape, many))[:120]:
                        x = tuple(sum(column) for column in zip(*group))
                        self.assertEqual(sum(cone_holds(cone, x, many) for cone in cones), 1, (shape, p, group))
                        back = tuple(2 * many * y - z for y, z in zip(p, x))
                        wanted = all(sum(y * z for y, z in zip(a, back)) <= many * b for a, b in mine)
                        self.assertEqual(sum(cone_holds(cone, back, many) for cone in cones), 1 if wanted else 0)

    def test_values_add_up(self):
        tried = 0
        for shape in SHAPES:
            points = Hull(shape).listed(1)
            for z in drawn_factors(137, len(shape[0]), 6):
                values = [series_by_listing(cone, z) for cone in corner_cones(shape)]
                if None in values:
                    continue
                tried += 1
                self.assertEqual(sum(values), sum(power_of(z, p) for p in points), (shape, z))
                told = [as_fraction(series_value(cone, z)) for cone in corner_cones(shape)]
                self.assertEqual(told, values)
        self.assertGreater(tried, 150)

    def test_known(self):
        self.assertEqual(sorted(corner_cones(((0,), (5,), (2,)))), [((0,), ((1,),), ()), ((5,), ((-1,),), ())])
        self.assertEqual(len(corner_cones(SQUARE)), 4)
        self.assertEqual(len(corner_cones(CUBE)), 8)
        self.assertEqual(len(corner_cones(((0, 0), (5, 1), (2, 7), (1, 1), (2, 3)))), len(corners(((0, 0), (5, 1), (2, 7), (1, 1)))))

    def test_errors(self):
        ask_shapes(self, expect, BadShape, Flat, corner_cones)


class Unimodular(Form):
    def parts_of(self, cone):
        told = unimodular_parts(cone)
        self.assertIs(told.__class__, tuple)
        for part in told:
            self.check_cone(part)
            self.assertEqual((part[0], abs(det(part[1]))), (cone[0], 1))
        return told

    def test_each_point_in_exactly_one(self):
        found = {True: 0, False: 0}
        for cone in CONES:
            apex, vectors, _ = cone
            for places in all_places(len(apex)):
                cone = (apex, vectors, places)
                parts = self.parts_of(cone)
                for scale, far in (((1, 5), (4, 9)), ((1, 5), (2, 5)), ((1, 2), (2, 3)))[len(apex) - 1]:
                    if len(parts) > 12 and len(apex) == 3:
                        far -= 1
                    for x in around(apex, far, scale):
                        wanted = cone_holds(cone, x, scale)
                        many = sum(cone_holds(part, x, scale) for part in parts)
                        self.assertEqual(many, 1 if wanted else 0, (cone, x, scale))
                        found[wanted] += 1
        self.assertGreater(min(found.values()), 10000)

    def test_walls(self):
        # Sums of vectors of the parts lie on the walls between parts.
        chance = random.Random(138)
        for cone in CONES + tuple(random_cones(139, 3, 5, 10)) + tuple(random_cones(140, 2, 30, 10)):
            apex, _, places = cone
            parts = self.parts_of(cone)
            rays = sorted({vector for part in parts for vector in part[1]})
            groups = [group for many in (1, 2, 3) for group in itertools.combinations_with_replacement(rays, many)]
            for group in [()] + chance.sample(groups, min(60, len(groups))):
                p = tuple(x + sum(column) for x, column in zip(apex, zip(*group))) if group else apex
                self.assertEqual(sum(cone_holds(part, p) for part in parts), cone_holds(cone, p), (cone, group))

    def test_values_add_up(self):
        tried = 0
        for cone in CONES:
            for z in drawn_factors(141, len(cone[0]), 4):
                values = [series_by_listing(part, z) for part in self.parts_of(cone)]
                if None not in values + [series_by_listing(cone, z)]:
                    tried += 1
                    self.assertEqual(sum(values), series_by_listing(cone, z))
        self.assertGreater(tried, 80)

    def test_a_part_already(self):
        for vectors in (((1,),), ((-1,),), ((2, 1), (1, 1)), ((0, 1), (1, 0)), ((1, 0, 0), (50, 1, 0), (-50, 49, 1))):
            for places in all_places(len(vectors)):
                apex = (1000, -1000, 3)[:len(vectors)]
                (part,) = self.parts_of((apex, vectors, places))
                self.assertEqual(sorted(part[1]), sorted(vectors))
                self.assertEqual({part[1][k] for k in part[2]}, {vectors[k] for k in places})

    def test_great_determinants(self):
        for cone in (((0, 0), ((50, -49), (49, 50)), (0,)), ((9, -9), ((1, 0), (1, 50)), ()), ((0, 0), ((-1, 0), (49, 50)), (0, 1)),
                     ((0, 0, 0), ((1, 0, 0), (0, 1, 0), (49, 47, 50)), (1,)), ((0, 0, 0), ((1, 0, 0), (0, 1, 0), (1, 49, 50)), ()),
                     ((5, 5, 5), ((50, 49, 0), (0, 50, 49), (49, 0, 50)), (0, 2)), ((0, 0, 0), ((-9, 9, 1), (9, 9, 1), (0, -9, 1)), ())):
            parts = self.parts_of(cone)
            apex, vectors, places = cone
            chance = random.Random(142)
            for _ in range(150):
                factors = [chance.randint(-2, 30) for _ in vectors]
                x = tuple(7 * y + sum(f * v for f, v in zip(factors, column)) for y, column in zip(apex, zip(*vectors)))
                wanted = all(f > 0 if k in places else f >= 0 for k, f in enumerate(factors))
                self.assertEqual(sum(cone_holds(part, x, 7) for part in parts), 1 if wanted else 0)

    def test_errors(self):
        for value in BAD_CONES:
            expect(self, BadCone, unimodular_parts, value)


class Count(unittest.TestCase):
    def test_against_listing(self):
        for shape in SHAPES:
            hull, size = Hull(shape), len(shape[0])
            self.assertEqual(count_by_cones(shape, 0), 1)
            for n in range(1, (12, 5, 4)[size - 1]):
                if len(list(hull.box(n))) <= 700:
                    self.assertEqual(count_by_cones(shape, n), len(hull.listed(n)), (shape, n))

    def test_against_the_polynomial(self):
        for shape in SHAPES:
            hull, size = Hull(shape), len(shape[0])
            if len(list(hull.box(size))) <= 1500:
                counts = [1] + [len(hull.listed(n)) for n in range(1, size + 1)]
                poly = lagrange(range(size + 1), counts)
                for n in (7, 1000, 123456789, GREATEST):
                    self.assertEqual(count_by_cones(shape, n), poly_value(poly, n))

    def test_great_shapes(self):
        for shape in random_shapes(143, 2, 50, 3, 6):
            self.assertEqual(count_by_cones(shape, 1), len(Hull(shape).listed(1)))
        for shape in random_shapes(144, 3, 9, 12, 12):
            # The value at 0, and the last number, are known without listing.
            first, second, third = [count_by_cones(shape, n) for n in (1, 2, 3)]
            self.assertEqual(third - 3 * second + 3 * first - 1, content(shape))
            sides = hull_facets(shape)
            listed = [p for p in Hull(shape).box(1) if all(sum(x * y for x, y in zip(a, p)) <= b for a, b in sides)]
            self.assertEqual(first, len(listed))

    def test_known(self):
        for n in (0, 1, 2, 1000, GREATEST):
            self.assertEqual(count_by_cones(BIG_CUBE, n), (100 * n + 1) ** 3)
            self.assertEqual(count_by_cones(((-50,), (50,)), n), 100 * n + 1)
            self.assertEqual(count_by_cones(LINE_OF_12, n), 11 * n + 1)
            self.assertEqual(count_by_cones(((0, 0, 0), (50, 0, 0), (0, 50, 0), (0, 0, 50)), n), comb(50 * n + 3, 3))
            self.assertEqual(count_by_cones(((-50, -50), (50, -50), (-50, 50)), n), comb(100 * n + 2, 2))
            self.assertEqual(count_by_cones(OCTAHEDRON, n), (2 * n + 1) * (2 * n * n + 2 * n + 3) // 3)
            for q in (1, 2, 5, 50):
                # The only points are the corners, the content is q.
                wanted = (q * n ** 3 + 6 * n * n + (12 - q) * n + 6) // 6
                self.assertEqual(count_by_cones(((0, 0, 0), (1, 0, 0), (0, 1, 0), (1, 1, q)), n), wanted)

    def test_against_ehrhart(self):
        for shape in SHAPES:
            for n in (1, 2, 3, 10 ** 6, GREATEST - 1):
                self.assertEqual(count_by_cones(shape, n), poly_value(ehrhart(shape), n))

    def test_errors(self):
        for behind in ((1,), (None,), (-1,)):
            ask_shapes(self, expect, BadShape, Flat, count_by_cones, behind)
        for shape in GOOD_SHAPES + (BIG_CUBE,):
            for wrong in KINDS + (-1, GREATEST + 1, HUGE, -HUGE, (1,), (1, 1)):
                expect(self, BadNumber, count_by_cones, shape, wrong)
