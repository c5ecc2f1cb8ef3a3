"""Points 16 and 17: maps of polygons, least forms, and all reflexive polygons."""
import itertools
import unittest
from fractions import Fraction

from latticepoints.errors import BadShape, Flat, NotPlane
from latticepoints.forms import alike, all_reflexive, least_form, shows_alike
from latticepoints.reflexive import center_of
from latticepoints.shapes import content, corners
from latticepoints.stars import star
from tests.faults import BAD_SHAPES, CUBE, FLATS, LINE_OF_12, SQUARE, ask_shapes
from tests.plain import Hull, det, divisor, in_hull, moved, random_maps, random_shapes
from tests.wrong import KINDS, NUMBERS, expect

TRIANGLE = ((0, 0), (1, 0), (0, 1))
POLYGONS = ((TRIANGLE, SQUARE, ((0, 0), (3, 0), (0, 3)), ((0, 0), (4, 1), (1, 3)), ((0, 0), (5, 1), (2, 7), (1, 1)))
            + tuple(random_shapes(101, 2, 4, 30, 7)) + tuple(random_shapes(102, 2, 12, 15, 9)))
NO_PLANES = (LINE_OF_12, ((0,), (1,)), CUBE, ((0, 0, 0), (1, 0, 0), (0, 1, 0), (1, 1, 5)))
TURN = (((0, 1), (1, 0)), (0, 0))


def fits(shape):
    return max(abs(x) for p in shape for x in p) <= 50


KNOWN = {}


def ends_of(shape):
    if shape not in KNOWN:
        KNOWN[shape] = [p for p in shape if not in_hull([q for q in shape if q != p], p)]
    return KNOWN[shape]


def ring(shape):
    """The corners in the order around the middle, by the signs of determinants."""
    ends = ends_of(shape)
    first, rest = ends[0], ends[1:]
    # From a corner all others lie within half a turn.
    order = []
    while rest:
        nearest = next(p for p in rest if all(det((less(p, first), less(q, first))) >= 0 for q in rest))
        order.append(nearest)
        rest = [p for p in rest if p != nearest]
    return [first] + order


def less(p, q):
    return tuple(x - y for x, y in zip(p, q))


def map_between(three, images):
    """The rows and the shift that take three corners to images, None if they are no integers or no map."""
    ways = [less(p, three[0]) for p in three[1:]]
    goals = [less(p, images[0]) for p in images[1:]]
    whole = det(ways)
    rows = []
    for k in range(2):
        row = [Fraction(det(((goals[0][k], ways[0][1]), (goals[1][k], ways[1][1]))), whole),
               Fraction(det(((ways[0][0], goals[0][k]), (ways[1][0], goals[1][k]))), whole)]
        if any(x.denominator > 1 for x in row):
            return None
        rows.append(tuple(int(x) for x in row))
    if abs(det(rows)) != 1:
        return None
    return tuple(rows), less(images[0], moved([three[0]], rows, (0, 0))[0])


def are_alike(one, other):
    """Whether any row of three corners of the other gives a map that takes all corners to all corners."""
    starts, ends = ends_of(one), set(ends_of(other))
    for images in itertools.permutations(sorted(ends), 3):
        found = map_between(starts[:3], images)
        if found and set(moved(starts, *found)) == ends:
            return True
    return False


def forms_by_listing(shape):
    """All images of the corners that least_form chooses from, each by the one map of a listed lot that makes it."""
    order, found = ring(shape), []
    for corners_in_order in (order, order[::-1]):
        for k in range(len(order)):
            turned = corners_in_order[k:] + corners_in_order[:k]
            here, onward, back = turned[0], turned[1], turned[-1]
            far = divisor(less(onward, here))
            height = abs(det((less(onward, here), less(back, here)))) // far
            ways = [map_between((here, onward, back), ((0, 0), (far, 0), (x, height))) for x in range(height)]
            ways = [way for way in ways if way]
            assert len(ways) == 1, shape
            found.append(moved(turned, *ways[0]))
    return found


class LeastForm(unittest.TestCase):
    def test_against_listing(self):
        for shape in POLYGONS:
            form = least_form(shape)
            self.assertEqual((form.__class__, {p.__class__ for p in form}), (tuple, {tuple}))
            self.assertEqual(form, min(forms_by_listing(shape)), shape)

    def test_maps_keep_it(self):
        tried = 0
        for shape in POLYGONS:
            for rows, shift in random_maps(103, 25, 3):
                image = moved(shape, rows, shift)
                if fits(image):
                    tried += 1
                    self.assertEqual(least_form(image), least_form(shape), (shape, rows, shift))
        self.assertGreater(tried, 400)

    def test_its_own_form(self):
        for shape in POLYGONS:
            if fits(least_form(shape)):
                self.assertEqual(least_form(least_form(shape)), least_form(shape))
                self.assertEqual(content(least_form(shape)), content(shape))

    def test_points_that_are_no_corners(self):
        self.assertEqual(least_form(((0, 0), (4, 0), (0, 4), (1, 1), (2, 2), (2, 0), (0, 1))),
                         least_form(((0, 4), (0, 0), (4, 0))))

    def test_known(self):
        self.assertEqual(least_form(((7, 7), (7, 8), (8, 7))), ((0, 0), (1, 0), (0, 1)))
        self.assertEqual(least_form(((0, 0), (2, 0), (0, 2))), ((0, 0), (2, 0), (0, 2)))
        self.assertEqual(least_form(((0, 0), (1, 0), (0, 5))), ((0, 0), (1, 0), (0, 5)))
        self.assertEqual(least_form(((0, 0), (2, 1), (1, 2))), ((0, 0), (1, 0), (2, 3)))
        # The least and the greatest numbers.
        self.assertEqual(least_form(((-50, -50), (50, -50), (50, 50), (-50, 50))),
                         ((0, 0), (100, 0), (100, 100), (0, 100)))
        # The greatest heights that shapes have: numbers beyond those of shapes.
        self.assertEqual(least_form(((-50, -50), (49, 50), (50, -49))), min(forms_by_listing(((-50, -50), (49, 50), (50, -49)))))

    def test_errors(self):
        ask_shapes(self, expect, BadShape, Flat, least_form)
        for shape in NO_PLANES:
            expect(self, NotPlane, least_form, shape)


class Alike(unittest.TestCase):
    def check(self, one, other):
        """Check that the answer is a map of one onto other; return whether there is one."""
        told = alike(one, other)
        if told is None:
            return False
        self.assertEqual((told.__class__, len(told)), (tuple, 2))
        rows, shift = told
        self.assertEqual([x.__class__ for x in (rows, shift, *rows)], [tuple] * 4)
        self.assertEqual({x.__class__ for x in (*shift, *rows[0], *rows[1])}, {int})
        self.assertEqual((len(rows), len(shift), len(rows[0]), len(rows[1]), abs(det(rows))), (2, 2, 2, 2, 1))
        self.assertEqual(set(moved(ends_of(one), rows, shift)), set(corners(other)), (one, other))
        self.assertIs(shows_alike(one, other, told), True)
        return True

    def test_drawn_maps(self):
        tried = 0
        for shape in POLYGONS:
            for rows, shift in random_maps(104, 20, 3):
                image = moved(shape, rows, shift)
                if fits(image):
                    tried += 1
                    self.assertTrue(self.check(shape, image), (shape, rows, shift))
                    self.assertTrue(self.check(image, shape[::-1]))
        self.assertGreater(tried, 300)

    def test_all_pairs(self):
        found = {True: 0, False: 0}
        few = [shape for shape in POLYGONS if content(shape) <= 12] + random_shapes(105, 2, 2, 30, 4)
        for one, other in itertools.product(few, repeat=2):
            wanted = are_alike(one, other) if len(ends_of(one)) == len(ends_of(other)) else False
            self.assertIs(self.check(one, other), wanted, (one, other))
            self.assertIs(least_form(one) == least_form(other), wanted)
            found[wanted] += 1
        self.assertGreater(min(found.values()), 80)

    def test_same_counts_and_not_alike(self):
        # As many points inside, on the border and in all as one another.
        for one, other in ((((0, 0), (1, 0), (2, 7)), ((0, 0), (1, 0), (3, 7))),
                           (((0, 0), (1, 0), (2, 11)), ((0, 0), (1, 0), (3, 11)))):
            self.assertEqual(star(one), star(other))
            self.assertEqual((self.check(one, other), are_alike(one, other)), (False, False))

    def test_points_that_are_no_corners(self):
        self.assertTrue(self.check(((0, 0), (2, 0), (0, 2), (1, 1)), ((5, 5), (3, 5), (5, 3))))
        self.assertTrue(self.check(((0, 0), (2, 0), (0, 2)), ((5, 5), (3, 5), (5, 3), (4, 5), (4, 4))))

    def test_errors(self):
        for behind in ((TRIANGLE,), (None,), (LINE_OF_12,), (FLATS[0],)):
            ask_shapes(self, expect, BadShape, Flat, alike, behind)
            for shape in NO_PLANES:
                expect(self, NotPlane, alike, shape, *behind)
        for value, index in BAD_SHAPES:
            expect(self, BadShape, alike, TRIANGLE, value, index=index)
        for value in FLATS:
            expect(self, Flat, alike, TRIANGLE, value)
        for value in NO_PLANES:
            expect(self, NotPlane, alike, TRIANGLE, value)


class ShowsAlike(unittest.TestCase):
    def test_drawn_maps(self):
        for shape in POLYGONS[:25]:
            for rows, shift in random_maps(106, 12, 2):
                image = moved(shape, rows, shift)
                if fits(image):
                    self.assertIs(shows_alike(shape, image, (rows, shift)), True)
                    for wrong in ((rows, (shift[0] + 1, shift[1])), (rows[::-1], shift), ((rows[0], rows[0]), shift)):
                        wanted = abs(det(wrong[0])) == 1 and set(moved(ends_of(shape), *wrong)) == set(ends_of(image))
                        self.assertIs(shows_alike(shape, image, wrong), wanted)

    def test_all_small_maps(self):
        for one, other in ((SQUARE, SQUARE), (TRIANGLE, TRIANGLE), (((0, 0), (2, 0), (0, 1)), ((0, 0), (1, 0), (0, 2)))):
            for numbers in itertools.product((-1, 0, 1), repeat=4):
                rows = (numbers[:2], numbers[2:])
                for shift in itertools.product((0, 1), repeat=2):
                    wanted = abs(det(rows)) == 1 and set(moved(one, rows, shift)) == set(other)
                    self.assertIs(shows_alike(one, other, (rows, shift)), wanted)

    def test_determinant(self):
        # These rows take the corners to the corners, but the map of the plane is none of determinant 1 or -1.
        one, other = ((0, 0), (1, 0), (0, 1)), ((0, 0), (2, 0), (0, 1))
        self.assertIs(shows_alike(one, other, (((2, 0), (0, 1)), (0, 0))), False)
        self.assertIs(shows_alike(other, other, (((1, 0), (0, 1)), (0, 0))), True)
        # The corners are enough: points that are none may go where none is given.
        self.assertIs(shows_alike(one + ((5, 5), (4, 4)), ((0, 0), (5, 5), (1, 0), (0, 1)), TURN), True)
        self.assertIs(shows_alike(SQUARE, ((0, 0), (1, 0), (0, 1), (1, 1)), (((1, 1), (0, 1)), (0, 0))), False)

    def test_every_value_is_judged(self):
        far = 10 ** 40
        for value in KINDS + NUMBERS + (
                TURN[0], (TURN[0],), TURN + ((0, 0),), [TURN[0], (0, 0)], ([(0, 1), (1, 0)], (0, 0)),
                (((0, 1), [1, 0]), (0, 0)), (((0, 1), (1, 0)), [0, 0]), (((0, 1), (1, 0), (0, 0)), (0, 0)),
                (((0, 1), (1,)), (0, 0)), (((0, 1), (1, 0, 0)), (0, 0)), (((0, True), (True, 0)), (0, 0)),
                (((0, 1), (1, False)), (0, 0)), (((0, 1), (1, 0)), (0, False)), (((0, 1), (1, 0)), (0,)),
                (((0, 1), (1, 0)), (0, 0, 0)), (((0, 1), (1, 0)), 0), (((0, 1), (1, 0)), None), (None, (0, 0)),
                (((0, 1), None), (0, 0)), ((None, (1, 0)), (0, 0)), (((0, "1"), (1, 0)), (0, 0)), ("01", (0, 0)),
                (("01", "10"), (0, 0)), (((0, 1), (1, 0)), "00"), ({0: 1}, {}), (((0, (1,)), (1, 0)), (0, 0)),
                (((0, 0), (0, 0)), (0, 0)), (((far, far - 1), (1, 1)), (0, 0)), (((0, 1), (1, 0)), (far, -far)),
                (((0, 1), (1, 0)), ((0, 0), 0)), ((((0, 1), (1, 0)), (0, 0)),)):
            self.assertIs(shows_alike(TRIANGLE, TRIANGLE, value), False, value)
        for third in itertools.product(range(-2, 3), repeat=2):
            for rows in ((TURN[0] + (third,)), ((third,) + TURN[0]), ((1, 0), third, (0, 1)), ((1, 0), (0, 1), third)):
                self.assertIs(shows_alike(TRIANGLE, TRIANGLE, (rows, (0, 0))), False)
        self.assertIs(shows_alike(TRIANGLE, TRIANGLE, TURN), True)

    def test_errors(self):
        for behind in ((TRIANGLE, TURN), (None, None), (LINE_OF_12, 5), (FLATS[0], TURN)):
            ask_shapes(self, expect, BadShape, Flat, shows_alike, behind)
            for shape in NO_PLANES:
                expect(self, NotPlane, shows_alike, shape, *behind)
        for value, index in BAD_SHAPES:
            expect(self, BadShape, shows_alike, TRIANGLE, value, None, index=index)
        for value in FLATS:
            expect(self, Flat, shows_alike, TRIANGLE, value, TURN)
        for value in NO_PLANES:
            expect(self, NotPlane, shows_alike, TRIANGLE, value, None)


class AllReflexive(unittest.TestCase):
    def test_sixteen(self):
        told = all_reflexive()
        self.assertEqual((told.__class__, len(told)), (tuple, 16))
        self.assertEqual(told, tuple(sorted(set(told))))
        for form in told:
            self.assertIsNotNone(center_of(form))
            self.assertEqual(form, least_form(form))
            self.assertEqual(len(Hull(form).inner(1)), 1)
        for one, other in itertools.combinations(told, 2):
            self.assertFalse(len(one) == len(other) and are_alike(one, other))

    def test_against_all_polygons_with_one_inner_point(self):
        rows = listed_reflexive()
        self.assertGreater(len(rows), 16)
        for points in rows:
            hull = Hull(points)
            self.assertEqual(hull.inner(1), ((0, 0),))
            self.assertEqual(sorted(points), [p for p in hull.box(1) if hull.place(p) == 0])
        self.assertEqual(set(all_reflexive()), {least_form(points) for points in rows})

    def test_new_each_time(self):
        self.assertEqual(all_reflexive(), all_reflexive())

    def test_polygons_with_inner_points(self):
        forms = all_reflexive()
        for shape in POLYGONS:
            if content(shape) > 40:
                continue
            hull = Hull(shape)
            inner, border = len(hull.inner(1)), sum(hull.place(p) == 0 for p in hull.box(1))
            self.assertEqual(star(shape), (1, border + inner - 3, inner))
            self.assertIs(least_form(shape) in forms, inner == 1)
            if inner:
                self.assertTrue(border <= 2 * inner + 6 or (border, inner) == (9, 1))


def listed_reflexive():
    """All rows of border points around 0 as their one inner point, from (1, 0) and (0, 1) on."""
    found = []
    waiting = [((1, 0), (0, 1))]
    while waiting:
        points = waiting.pop()
        before, here = points[-2:]
        if det((here, points[0])) == 1 and len(points) > 2 and is_outward(points):
            found.append(points)
        # Two neighbours have the determinant 1, so the sum of both neighbours is a multiple of a point;
        # up to twice the point it bends outward or not at all.
        for factor in range(-9, 3):
            p = tuple(factor * x - y for x, y in zip(here, before))
            # Once around: the second coordinate falls below 0 once, and comes back to 0 at the first point only.
            if len(points) < 10 and p != (1, 0) and (p[1] < 0 or here[1] > 0 or p[1] == 0 > p[0]):
                if p[1] < 0 or all(q[1] >= 0 for q in points):
                    waiting.append(points + (p,))
    return found


def is_outward(points):
    """Whether the row bends outward, or not at all, at its end and its start too."""
    return (det((less(points[-1], points[-2]), less(points[0], points[-1]))) >= 0
            and det((less(points[0], points[-1]), less(points[1], points[0]))) >= 0)
