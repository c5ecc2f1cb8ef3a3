"""Points 18 and 19: cones, their box points, and their series."""
import itertools
import random
import unittest
from fractions import Fraction

from latticepoints.cones import cone_box, cone_rows, graded, in_cone, series_value
from latticepoints.errors import BadCone, BadFactors, BadGrade, BadNumber, BadPoint, Pole
from tests.plain import (Frame, all_places, as_fraction, as_ratio, cone_holds, det, divisor, power_of, random_cones,
                         series_by_listing, units_of)
from tests.wrong import KINDS, NUMBERS, expect

HUGE = 10 ** 40
LINE = ((3,), ((1,),), ())
WIDE = ((0, 0), ((1, 0), (1, 3)), ())
SOLID = ((1, -2, 3), ((1, 0, 0), (0, 1, 0), (1, 2, 5)), (0, 2))
GREATEST = ((1000, -1000, 1000), ((-49, 50, 50), (50, -49, 50), (50, 50, -49)), (0, 1, 2))
CONES = ((LINE, ((-7,), ((-1,),), (0,)), WIDE, SOLID, ((0, 0), ((1, 0), (0, 1)), (0, 1)), ((-3, 5), ((-2, 1), (3, 4)), (1,)),
          ((0, 0, 0), ((1, 1, 0), (1, 0, 1), (0, 1, 1)), ()))
         + tuple(random_cones(121, 1, 1, 4)) + tuple(random_cones(122, 2, 4, 25)) + tuple(random_cones(123, 3, 2, 25)))

BAD_CONES = KINDS + NUMBERS + (
    LINE[:2], LINE + ((),), list(LINE), ([3], ((1,),), ()), ((3,), [(1,)], ()), ((3,), ([1],), ()), ((3,), ((1,),), []),
    ((), (), ()), ((0,) * 4, tuple(units_of(4)), ()), ((1001,), ((1,),), ()), ((-1001,), ((1,),), ()),
    ((HUGE,), ((1,),), ()), ((True,), ((1,),), ()), ((None,), ((1,),), ()), (("3",), ((1,),), ()), (3, ((1,),), ()),
    ((3,), ((True,),), ()), ((3,), (("1",),), ()), ((3,), (1,), ()), ((3,), ((0,),), ()), ((3,), ((2,),), ()),
    ((3,), ((-2,),), ()), ((3,), ((51,),), ()), ((3,), ((1,), (1,)), ()), ((3,), (), ()), ((3,), ((1, 0),), ()),
    ((3,), None, ()), ((3,), "1", ()), ((3,), {}, ()), ((3,), ((1,),), None), ((3,), ((1,),), 0), ((3,), ((1,),), (1,)),
    ((3,), ((1,),), (-1,)), ((3,), ((1,),), (0, 0)), ((3,), ((1,),), (False,)), ((3,), ((1,),), (None,)),
    ((3,), ((1,),), ("0",)), ((3,), ((1,),), "0"), ((3,), ((1,),), ((0,),)), ((3,), ((1,),), {0: 1}),
    ((0, 0), ((1, 0), (51, 1)), ()), ((0, 0), ((1, 0), (1, -51)), ()), ((0, 0), ((1, 0), (2, 0)), ()),
    ((0, 0), ((1, 0), (1, 0)), ()), ((0, 0), ((1, 0), (-1, 0)), ()), ((0, 0), ((1, 0), (0, 0)), ()),
    ((0, 0), ((2, 4), (0, 1)), ()), ((0, 0), ((1, 0), (0, 1), (1, 1)), ()), ((0, 0), ((1, 0),), ()),
    ((0, 0), ((1, 0), (0,)), ()), ((0, 0), ((1, 0), (0, 1, 0)), ()), ((0, 0), ((1, 0), [0, 1]), ()),
    ((0, 0), ((1, 0), (0, True)), ()), ((0, 0), ((1, 0), (0, None)), ()), ((0, 0), ((1, 0), None), ()),
    ((0, 0), ((1, 0), (0, 1)), (2,)), ((0, 0), ((1, 0), (0, 1)), (1, 0)), ((0, 0), ((1, 0), (0, 1)), (0, 0)),
    ((0, 0), ((1, 0), (0, 1)), (0, 1, 1)), ((0, 0), ((1, 0), (0, 1)), (-1, 0)), ((0, 0), ((1, 0), (0, 1)), (0, True)),
    ((0, 0, 0), ((1, 0), (0, 1)), ()), ((0,), ((1, 0), (0, 1)), ()), ((0, 0), ((1, 0, 0), (0, 1, 0), (0, 0, 1)), ()),
    ((0, 0, 0), ((1, 0, 0), (0, 1, 0), (1, 1, 0)), ()), ((0, 0, 0), ((1, 0, 0), (0, 1, 0), (0, 0, 1)), (0, 1, 3)),
    ((0, 0, 1001), ((1, 0, 0), (0, 1, 0), (0, 0, 1)), ()), ((0, 0, 0), ((1, 0, 0), (0, 1, 0), (0, 0, 51)), ()))


def ask_cones(test, call, *behind):
    for value in BAD_CONES:
        expect(test, BadCone, call, value, *behind)


def around(cone, far):
    return itertools.product(*[range(x - far, x + far + 1) for x in cone[0]])


def plus(p, q):
    return tuple(x + y for x, y in zip(p, q))


class InCone(unittest.TestCase):
    def test_all_points_near_the_apex(self):
        found = {True: 0, False: 0}
        for cone in CONES:
            for p in around(cone, (12, 8, 4)[len(cone[0]) - 1]):
                wanted = cone_holds(cone, p)
                self.assertIs(in_cone(cone, p), wanted, (cone, p))
                found[wanted] += 1
        self.assertGreater(min(found.values()), 2000)

    def test_apex_and_sides(self):
        for apex, vectors, _ in CONES:
            for places in all_places(len(apex)):
                cone = (apex, vectors, places)
                self.assertIs(in_cone(cone, apex), not places)
                for k, vector in enumerate(vectors):
                    self.assertIs(in_cone(cone, plus(apex, vector)), set(places) <= {k})
                inside = tuple(x + sum(column) for x, column in zip(apex, zip(*vectors)))
                self.assertIs(in_cone(cone, inside), True)
                behind = tuple(x - sum(column) for x, column in zip(apex, zip(*vectors)))
                self.assertIs(in_cone(cone, behind), False)

    def test_any_size(self):
        self.assertIs(in_cone(LINE, (HUGE,)), True)
        self.assertIs(in_cone(LINE, (-HUGE,)), False)
        self.assertIs(in_cone(WIDE, (HUGE, 3 * HUGE)), True)
        self.assertIs(in_cone(WIDE, (HUGE, 3 * HUGE + 1)), False)
        self.assertIs(in_cone(GREATEST, (HUGE, HUGE, HUGE)), True)
        self.assertIs(in_cone(GREATEST, (1000, -1000, 1000)), False)
        self.assertIs(in_cone(GREATEST[:2] + ((),), (1000, -1000, 1000)), True)

    def test_errors(self):
        ask_cones(self, in_cone, (0,))
        ask_cones(self, in_cone, None)
        for cone in (LINE, WIDE, SOLID):
            size = len(cone[0])
            for wrong in KINDS + NUMBERS + ((0,) * (size + 1), (0,) * (size - 1), [0] * size, (None,) * size,
                                            (True,) * size, (0,) * (size - 1) + (False,), "0" * size, ("0",) * size,
                                            ((0,),) * size, (0,) * (size - 1) + ([],)):
                expect(self, BadPoint, in_cone, cone, wrong)


class ConeRows(unittest.TestCase):
    def test_definition(self):
        for cone in CONES + (GREATEST,):
            rows = cone_rows(cone)
            self.assertEqual((rows.__class__, len(rows)), (tuple, len(cone[0])))
            for k, row in enumerate(rows):
                self.assertEqual((row.__class__, len(row), divisor(row)), (tuple, len(cone[0]), 1))
                for j, vector in enumerate(cone[1]):
                    product = sum(x * y for x, y in zip(row, vector))
                    self.assertTrue(product > 0 if j == k else product == 0, cone)

    def test_known(self):
        self.assertEqual(cone_rows(LINE), ((1,),))
        self.assertEqual(cone_rows(((5,), ((-1,),), (0,))), ((-1,),))
        self.assertEqual(cone_rows(((0, 0), ((0, 1), (2, 1)), ())), ((-1, 2), (1, 0)))
        self.assertEqual(cone_rows(SOLID), ((5, 0, -1), (0, 5, -2), (0, 0, 1)))

    def test_errors(self):
        ask_cones(self, cone_rows)


class ConeBox(unittest.TestCase):
    def test_against_listing(self):
        for apex, vectors, _ in CONES:
            frame = Frame(vectors)
            for places in all_places(len(apex)):
                wanted = sorted(plus(apex, p) for p in frame.tile(places))
                self.assertEqual(cone_box((apex, vectors, places)), tuple(wanted))
                self.assertEqual(len(wanted), abs(det(vectors)))

    def test_each_point_is_one_of_them_plus_sums(self):
        for cone in CONES:
            apex, vectors, _ = cone
            frame, box = Frame(vectors), cone_box(cone)
            for p in around(cone, (9, 5, 3)[len(apex) - 1]):
                ways = 0
                for q in box:
                    parts = frame.parts([x - y for x, y in zip(p, q)])
                    ways += all(part % frame.whole == 0 and part >= 0 for part in parts)
                self.assertEqual(ways, 1 if cone_holds(cone, p) else 0, (cone, p))

    def test_known(self):
        self.assertEqual(cone_box(LINE), ((3,),))
        self.assertEqual(cone_box(LINE[:2] + ((0,),)), ((4,),))
        self.assertEqual(cone_box(((-1000,), ((-1,),), (0,))), ((-1001,),))
        self.assertEqual(cone_box(((0, 0), ((1, 0), (0, 1)), (0, 1))), ((1, 1),))
        self.assertEqual(cone_box(WIDE[:2] + ((0,),)), ((1, 0), (1, 1), (1, 2)))
        self.assertEqual(cone_box(WIDE[:2] + ((1,),)), ((1, 1), (1, 2), (1, 3)))
        self.assertEqual(cone_box(WIDE[:2] + ((0, 1),)), ((1, 1), (1, 2), (2, 3)))

    def test_least_and_greatest_numbers(self):
        told = cone_box(GREATEST)
        self.assertEqual(len(told), abs(det(GREATEST[1])))
        self.assertEqual(len(told), 499851)
        self.assertIn(plus(GREATEST[0], (51, 51, 51)), told)
        self.assertNotIn(GREATEST[0], told)
        self.assertEqual(list(told), sorted(set(told)))
        plane = ((-1000, 1000), ((-50, 49), (49, 50)), ())
        self.assertEqual(list(cone_box(plane)), sorted(plus(plane[0], p) for p in Frame(plane[1]).tile(())))

    def test_errors(self):
        ask_cones(self, cone_box)


def drawn_factors(seed, size, many):
    chance = random.Random(seed)
    found = [((2, 1), (3, 1), (5, 1))[:size], ((-2, 3), (5, 7), (-11, 4))[:size], ((1, 2), (-1, 3), (1, 5))[:size]]
    while len(found) < many:
        z = tuple(Fraction(chance.randint(-9, 9), chance.randint(1, 9)) for _ in range(size))
        if all(z):
            found.append(tuple(as_ratio(x) for x in z))
    return found


def halves_of(cone, k, j):
    """Two cones that make up a cone, cut through the sum of its vectors k and j."""
    apex, vectors, places = cone
    middle = plus(vectors[k], vectors[j])
    one = tuple(middle if i == j else vector for i, vector in enumerate(vectors))
    other = tuple(middle if i == k else vector for i, vector in enumerate(vectors))
    # A point a * vector k + b * vector j is (a - b) * vector k + b * middle, or a * middle + (b - a) * vector j.
    rest = [place for place in places if place not in (k, j)]
    # The wall between them goes to the one in which it is open to no point that the cone leaves out.
    if k in places and j not in places:
        return (apex, one, tuple(sorted(rest + [k]))), (apex, other, tuple(sorted(rest + [k])))
    kept = [place for place in (k, j) if place in places]
    return ((apex, one, tuple(sorted(rest + [place for place in kept if place == j]))),
            (apex, other, tuple(sorted(rest + [j] + [place for place in kept if place == k]))))


class Series(unittest.TestCase):
    def test_against_listing(self):
        poles = 0
        for cone in CONES:
            for z in drawn_factors(124, len(cone[0]), 8):
                wanted = series_by_listing(cone, z)
                if wanted is None:
                    poles += 1
                    expect(self, Pole, series_value, cone, z)
                else:
                    self.assertEqual(series_value(cone, z), as_ratio(wanted), (cone, z))
        self.assertLess(poles, 30)

    def test_both_halves(self):
        tried = 0
        for cone in CONES:
            size = len(cone[0])
            for k, j in itertools.permutations(range(size), 2):
                if divisor(plus(cone[1][k], cone[1][j])) != 1:
                    continue
                one, other = halves_of(cone, k, j)
                for p in around(cone, (3, 3, 2)[size - 1]):
                    self.assertEqual(in_cone(one, p) + in_cone(other, p), in_cone(cone, p))
                for z in drawn_factors(125, size, 4)[2:]:
                    if None in [series_by_listing(part, z) for part in (cone, one, other)]:
                        continue
                    tried += 1
                    total = as_fraction(series_value(one, z)) + as_fraction(series_value(other, z))
                    self.assertEqual(series_value(cone, z), as_ratio(total), (cone, z))
        self.assertGreater(tried, 120)

    def test_inverse_factors(self):
        for cone in CONES:
            apex, vectors, places = cone
            size = len(apex)
            turned = (tuple(-x for x in apex), vectors, tuple(k for k in range(size) if k not in places))
            for z in drawn_factors(126, size, 6):
                inverse = tuple(as_ratio(1 / as_fraction(x)) for x in z)
                if series_by_listing(cone, z) is not None:
                    top, bottom = series_value(turned, z)
                    self.assertEqual(series_value(cone, inverse), ((-1) ** size * top, bottom))

    def test_where_it_converges(self):
        # For small factors few points tell nearly all of the sum.
        for cone in (LINE, WIDE, ((0, 0), ((2, 1), (1, 2)), (0,)), ((1, 2, 0), ((1, 1, 0), (1, 0, 1), (0, 1, 1)), (1,))):
            size = len(cone[0])
            z = ((1, 10), (-1, 11), (1, 12))[:size]
            total = sum(power_of(z, p) for p in itertools.product(range(15), repeat=size) if in_cone(cone, p))
            self.assertLess(abs(as_fraction(series_value(cone, z)) - total), Fraction(1, 10 ** 10))

    def test_known(self):
        self.assertEqual(series_value(LINE, ((2, 1),)), (-8, 1))
        self.assertEqual(series_value(LINE[:2] + ((0,),), ((2, 1),)), (-16, 1))
        self.assertEqual(series_value(LINE, ((1, 2),)), (1, 4))
        self.assertEqual(series_value(LINE, ((-1, 1),)), (-1, 2))
        self.assertEqual(series_value(((-3,), ((-1,),), ()), ((1, 2),)), (-8, 1))
        self.assertEqual(series_value(((0, 0), ((1, 0), (0, 1)), ()), ((2, 1), (3, 1))), (1, 2))
        # The points of the box cancel.
        self.assertEqual(series_value(((0, 0), ((1, 1), (1, -1)), ()), ((-1, 1), (2, 1))), (0, 1))

    def test_poles(self):
        for cone, z in ((LINE, ((1, 1),)), (WIDE, ((1, 1), (2, 1))), (WIDE, ((8, 1), (1, 2))), (WIDE, ((-8, 1), (-1, 2))),
                        (((0, 0), ((2, 1), (1, 2)), ()), ((-1, 1), (1, 1))),
                        (((5, 5), ((2, 3), (1, 0)), (0,)), ((8, 27), (9, 4))),
                        (SOLID, ((2, 1), (1, 1), (3, 1))), (SOLID, ((1, 32), (1, 1), (2, 1)))):
            expect(self, Pole, series_value, cone, z)

    def test_great_numbers(self):
        big = (10 ** 30 + 1, 10 ** 30 - 3)
        for cone in (((1000, -1000), ((1, 2), (3, -1)), (0,)), ((-1000, 1000), ((-3, 2), (1, 1)), (0, 1)),
                     ((999,), ((-1,),), (0,)), ((1000, -1000, 7), ((1, 1, 0), (1, 0, 1), (0, 1, 1)), (1,))):
            z = (big, (-5, 10 ** 25 + 7), (10 ** 20, 3))[:len(cone[0])]
            self.assertEqual(series_value(cone, z), as_ratio(series_by_listing(cone, z)))
        wide = ((0, 0), ((50, -49), (-49, 50)), ())
        z = ((10 ** 12, 7), (-7, 10 ** 12 + 1))
        self.assertEqual(series_value(wide, z), as_ratio(series_by_listing(wide, z)))

    def test_greatest_box(self):
        # Every sum of three of the vectors' pairs is a multiple of (1, 1, 1), so the value is soon told again.
        z = ((2, 3), (-3, 5), (7, 2))
        value = series_value(GREATEST, z)
        gaps = [1 - power_of(z, vector) for vector in GREATEST[1]]
        box = cone_box(GREATEST)
        modulus = 10 ** 9 + 7
        roots = [x * pow(y, -1, modulus) % modulus for x, y in z]
        total = 0
        for p in box:
            total += pow(roots[0], p[0], modulus) * pow(roots[1], p[1], modulus) * pow(roots[2], p[2], modulus)
        for gap in gaps:
            total = total * gap.denominator * pow(gap.numerator, -1, modulus) % modulus
        self.assertEqual(value[0] * pow(value[1], -1, modulus) % modulus, total)

    def test_errors(self):
        ask_cones(self, series_value, ((2, 1),))
        ask_cones(self, series_value, None)
        wrong = ((0, 1), (2, 2), (-2, 4), (1, 0), (1, -1), (-1, -1), (2,), (1, 2, 3), (True, 1), (1, True), (None, 1),
                 ("1", 1), [2, 1], 2, None, "2", (), {}, ((2, 1),), (0, 0), (0, 5))
        for cone in (LINE, WIDE, SOLID):
            size = len(cone[0])
            right = ((2, 1), (3, 1), (5, 7))
            for value in wrong:
                for k in range(size):
                    expect(self, BadFactors, series_value, cone, right[:k] + (value,) + right[k + 1:size])
            for value in KINDS + NUMBERS + (right[:size - 1], right[:size] + ((1, 2),), list(right[:size])):
                expect(self, BadFactors, series_value, cone, value)
        # A pole as well, but the factors are wrong.
        expect(self, BadFactors, series_value, WIDE, ((1, 1), (0, 1)))
        expect(self, BadFactors, series_value, WIDE, ((1, 1), (4, 2)))


class Graded(unittest.TestCase):
    def grades(self, cone, bound, chance, many):
        found = []
        for _ in range(400):
            a = tuple(chance.randint(-bound, bound) for _ in cone[0])
            if all(sum(x * y for x, y in zip(a, vector)) > 0 for vector in cone[1]):
                found.append(a)
        return found[:many]

    def test_against_listing(self):
        chance = random.Random(127)
        tried = 0
        for cone in CONES:
            apex, vectors, places = cone
            for a in self.grades(cone, 4, chance, 3):
                steps = [sum(x * y for x, y in zip(a, vector)) for vector in vectors]
                most = {1: 30, 2: 20, 3: 8}[len(apex)]
                counts = [0] * (most + 1)
                # Points of such a grade are sums of the vectors with factors of at most most over their grades.
                columns = [[x * Fraction(most, step) for x in vector] for vector, step in zip(vectors, steps)]
                ranges = [range(int(sum(min(x, 0) for x in column)) - 1, int(sum(max(x, 0) for x in column)) + 2)
                          for column in zip(*columns)]
                frame = Frame(vectors)
                for p in itertools.product(*ranges):
                    k = sum(x * y for x, y in zip(a, p))
                    if 0 <= k <= most and frame.holds(p, places):
                        counts[k] += 1
                tried += 1
                for less in (0, 1, most):
                    self.assertEqual(graded(cone, a, less), tuple(counts[:less + 1]), (cone, a))
        self.assertGreater(tried, 80)

    def test_known(self):
        self.assertEqual(graded(LINE, (1,), 3), (1, 1, 1, 1))
        self.assertEqual(graded(LINE, (50,), 60), tuple(1 if k in (0, 50) else 0 for k in range(61)))
        self.assertEqual(graded(LINE[:2] + ((0,),), (1,), 3), (0, 1, 1, 1))
        self.assertEqual(graded(((3,), ((-1,),), ()), (-2,), 4), (1, 0, 1, 0, 1))
        self.assertEqual(graded(((0, 0), ((1, 0), (0, 1)), ()), (1, 1), 60), tuple(range(1, 62)))
        self.assertEqual(graded(((0, 0), ((1, 0), (0, 1)), (0, 1)), (1, 1), 4), (0, 0, 1, 2, 3))
        self.assertEqual(graded(((9, -9, 1000), tuple(units_of(3)), ()), (1, 1, 1), 60),
                         tuple((k + 1) * (k + 2) // 2 for k in range(61)))
        self.assertEqual(graded(SOLID, (1, 1, 1), 0), (0,))

    def test_greatest_numbers(self):
        closed = GREATEST[:2] + ((),)
        grades = [sum(p) - 1000 for p in cone_box(closed)]
        # All three vectors have the grade 51, so at most one more of them leads to a grade up to 60.
        counts = [grades.count(k) + (3 * grades.count(k - 51) if k >= 51 else 0) for k in range(61)]
        self.assertEqual(graded(closed, (1, 1, 1), 60), tuple(counts))

    def test_errors(self):
        ask_cones(self, graded, (1,), 3)
        ask_cones(self, graded, None, None)
        for cone in (LINE, WIDE, SOLID):
            size = len(cone[0])
            right = (1, 1, 1)[:size]
            for most in (3, None, -1):
                for value in KINDS + NUMBERS + ((1,) * (size + 1), (1,) * (size - 1), [1] * size, (True,) * size,
                                                (None,) * size, (51,) * size, (1,) * (size - 1) + (-51,), (0,) * size,
                                                (-1,) * size, (HUGE,) * size, ("1",) * size, ((1,),) * size):
                    expect(self, BadGrade, graded, cone, value, most)
            for value in KINDS + (-1, 61, HUGE, -HUGE, (3,), (1, 1)):
                expect(self, BadNumber, graded, cone, right, value)
        expect(self, BadGrade, graded, WIDE, (0, 1), 3)
        expect(self, BadGrade, graded, WIDE, (3, -1), 3)
        expect(self, BadGrade, graded, WIDE, (4, -2), 61)
        self.assertEqual(len(graded(WIDE, (4, -1), 60)), 61)
