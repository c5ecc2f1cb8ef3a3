"""Point 8: halves and their corners."""
import itertools
import random
import unittest

from latticepoints.errors import BadHalves, Empty, LatticeError, Unbounded
from latticepoints.halves import corners_of
from tests.faults import BOX, EMPTY, UNBOUNDED, UNIT, ask_halves
from tests.plain import as_ratio, corners_by_pairs, random_halves
from tests.wrong import expect


def told(halves):
    return tuple(tuple(as_ratio(x) for x in p) for p in corners_by_pairs(halves))


def has_end(halves, far):
    """Whether no tuple of integers up to far has products of at most 0 with all pairs."""
    size = len(halves[0][0])
    return not any(any(r) and all(sum(x * y for x, y in zip(a, r)) <= 0 for a, _ in halves)
                   for r in itertools.product(range(-far, far + 1), repeat=size))


class Corners(unittest.TestCase):
    def test_against_all_pairs(self):
        for size, bound, limit in ((1, 6, 9), (1, 50, 1000), (2, 4, 9), (2, 50, 1000), (3, 3, 6), (3, 50, 1000)):
            for halves in random_halves(size * 100 + bound, size, bound, limit, 12, 10 if size < 3 else 8):
                self.assertEqual(corners_of(halves), told(halves), halves)

    def test_order_is_that_of_values(self):
        halves = (((3, 0), 1), ((-2, 0), 1), ((0, 10), 9), ((0, -7), 100))
        self.assertEqual(corners_of(halves), (((-1, 2), (-100, 7)), ((-1, 2), (9, 10)), ((1, 3), (-100, 7)),
                                              ((1, 3), (9, 10))))

    def test_thin_sets(self):
        self.assertEqual(corners_of((((2,), 1), ((-2,), -1))), (((1, 2),),))
        self.assertEqual(corners_of((((1, 1), 0), ((-1, -1), 0), ((1, 0), 1), ((-1, 0), 0))),
                         (((0, 1), (0, 1)), ((1, 1), (-1, 1))))
        point = (((3, 0, 0), 1), ((-3, 0, 0), -1), ((0, 1, 0), 2), ((0, -1, 0), -2), ((0, 0, 2), 3), ((0, 0, -2), -3))
        self.assertEqual(corners_of(point), (((1, 3), (2, 1), (3, 2)),))
        square = point[:2] + (((0, 1, 0), 1), ((0, -1, 0), 0), ((0, 0, 1), 1), ((0, 0, -1), 0))
        self.assertEqual(corners_of(square), tuple(((1, 3), (y, 1), (z, 1)) for y in (0, 1) for z in (0, 1)))

    def test_edges(self):
        self.assertEqual(corners_of((((50,), 1000), ((-1,), 1000))), (((-1000, 1),), ((20, 1),)))
        self.assertEqual(corners_of((((-49,), -1000), ((-50,), 1000), ((1,), 1000), ((1,), 1000))),
                         (((1000, 49),), ((1000, 1),)))
        self.assertEqual(corners_of(UNIT * 5), (((0, 1),), ((1, 1),)))
        self.assertEqual(corners_of(BOX * 2 + BOX[:2]), corners_of(BOX))
        self.assertEqual(corners_of(BOX + (((1, 1), 0),)), (((0, 1), (0, 1)),))
        self.assertEqual(corners_of((((1, 0, 0), 0), ((0, 1, 0), 0), ((0, 0, 1), 0), ((-1, -1, -1), 50))),
                         (((-50, 1), (0, 1), (0, 1)), ((0, 1), (-50, 1), (0, 1)), ((0, 1), (0, 1), (-50, 1)),
                          ((0, 1), (0, 1), (0, 1))))

    def test_pairs_that_only_touch_make_no_new_corner(self):
        self.assertEqual(corners_of(BOX + (((2, 0), 5), ((6, 9), 12), ((1, 1), 50))), corners_of(BOX))

    def test_ends_against_listed_directions(self):
        chance = random.Random(21)
        found = {True: 0, False: 0}
        for size, bound, far, many in ((1, 2, 1, 30), (2, 4, 4, 200), (3, 1, 2, 250)):
            for _ in range(many):
                rows = [tuple(chance.randint(-bound, bound) for _ in range(size))
                        for _ in range(chance.randint(2, size + 4))]
                halves = tuple((a, chance.randint(-3, 9)) for a in rows if any(a))
                if len(halves) < 2:
                    continue
                ended = has_end(halves, far)
                found[ended] += 1
                self.assertEqual(error_of(halves), None if corners_by_pairs(halves) and ended else
                                 Empty if ended else Unbounded, halves)
        self.assertGreater(min(found.values()), 60)

    def test_errors(self):
        for value in UNBOUNDED:
            self.assertFalse(has_end(value, 10), value)
        for value in EMPTY:
            self.assertEqual(corners_by_pairs(value), [])
        ask_halves(self, expect, (BadHalves, Unbounded, Empty), corners_of)


def error_of(halves):
    try:
        corners_of(halves)
    except LatticeError as error:
        return error.__class__
    return None
