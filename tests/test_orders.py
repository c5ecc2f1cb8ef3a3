"""Points 30 and 31: orders, rising maps and loaded maps."""
import itertools
import math
import random
import unittest

from latticepoints.errors import BadMap, BadNumber, BadOrder
from latticepoints.orders import extensions, load, loaded_count, order_polynomial, unload
from tests.drawn import HUGE, NEITHER, ROUND, all_orders, drawn_orders
from tests.plain import as_fraction, poly_value
from tests.wrong import KINDS, expect

SMALL = [order for many in (1, 2, 3) for order in all_orders(many)] + drawn_orders(301, 4, 25)
LARGE = drawn_orders(302, 5, 12) + drawn_orders(303, 6, 10) + [(6, ()), (5, ())]
CHAIN = (6, tuple((k, k + 1) for k in range(5)))
BACKWARDS = (6, tuple((k + 1, k) for k in range(5)))
FULL = (6, tuple(itertools.combinations(range(6), 2)))


def rising(order, n):
    """All rising maps to 0, .., n, by listing all maps."""
    many, pairs = order
    return [f for f in itertools.product(range(n + 1), repeat=many) if all(f[i] <= f[j] for i, j in pairs)]


def chains_of(order):
    """All chains with at least one element, as sets of elements each two of which are led to one from the other."""
    many, pairs = order
    above = set(pairs)
    for _ in range(many):
        above |= {(i, k) for i, j in above for h, k in pairs if h == j}
    return [group for size in range(1, many + 1) for group in itertools.combinations(range(many), size)
            if all((i, j) in above or (j, i) in above for i, j in itertools.combinations(group, 2))]


def loaded(order, n):
    """All loaded maps for n, by listing all maps."""
    chains = chains_of(order)
    return [g for g in itertools.product(range(n + 1), repeat=order[0])
            if all(sum(g[k] for k in chain) <= n for chain in chains)]


class Orders(unittest.TestCase):
    def test_polynomial_against_listing(self):
        for order in SMALL:
            poly = order_polynomial(order)
            for n in range(6 if order[0] < 4 else 4):
                self.assertEqual(poly_value(poly, n), len(rising(order, n)), (order, n))
        for order in LARGE:
            poly = order_polynomial(order)
            for n in range(4):
                self.assertEqual(poly_value(poly, n), len(rising(order, n)), (order, n))

    def test_negative_numbers(self):
        for order in SMALL + LARGE[:12]:
            many, pairs = order
            poly = order_polynomial(order)
            self.assertEqual(len(poly), many + 1)
            for n in range(1, 5):
                steep = sum(all(f[i] < f[j] for i, j in pairs) for f in itertools.product(range(1, n), repeat=many))
                self.assertEqual(poly_value(poly, -n), (-1) ** many * steep, (order, n))

    def test_extensions_against_listing(self):
        for order in SMALL + LARGE:
            many, pairs = order
            wanted = sum(all(row.index(i) < row.index(j) for i, j in pairs) for row in itertools.permutations(range(many)))
            self.assertEqual(extensions(order), wanted, order)
            self.assertEqual(extensions(order), math.factorial(many) * as_fraction(order_polynomial(order)[-1]))

    def test_known(self):
        self.assertEqual(order_polynomial((1, ())), ((1, 1), (1, 1)))
        self.assertEqual(order_polynomial((2, ())), ((1, 1), (2, 1), (1, 1)))
        self.assertEqual(order_polynomial((6, ())), tuple((math.comb(6, k), 1) for k in range(7)))
        for order in (CHAIN, BACKWARDS, FULL):
            self.assertEqual(extensions(order), 1)
            self.assertEqual([poly_value(order_polynomial(order), n) for n in range(9)], [math.comb(n + 6, 6) for n in range(9)])
        self.assertEqual([extensions((many, ())) for many in range(1, 7)], [1, 2, 6, 24, 120, 720])
        # A pair from a greater to a lesser integer is an order like any other.
        self.assertEqual(order_polynomial((2, ((1, 0),))), order_polynomial((2, ((0, 1),))))
        self.assertEqual(extensions((3, ((2, 0), (2, 1)))), 2)

    def test_pairs_told_by_others_change_nothing(self):
        for order, other in (((3, ((0, 1), (1, 2))), (3, ((0, 1), (0, 2), (1, 2)))), (CHAIN, FULL)):
            self.assertEqual(order_polynomial(order), order_polynomial(other))
            self.assertEqual(loaded_count(order, 3), loaded_count(other, 3))


class Loads(unittest.TestCase):
    def test_loaded_count_against_listing(self):
        for order in SMALL:
            for n in range(6 if order[0] < 4 else 4):
                self.assertEqual(loaded_count(order, n), len(loaded(order, n)), (order, n))
        for order in LARGE:
            for n in range(3):
                self.assertEqual(loaded_count(order, n), len(loaded(order, n)), (order, n))

    def test_loaded_count_is_that_of_rising_maps(self):
        for order in SMALL + LARGE + [CHAIN, BACKWARDS, FULL]:
            poly = order_polynomial(order)
            self.assertEqual([loaded_count(order, n) for n in range(9)], [poly_value(poly, n) for n in range(9)])
        self.assertEqual(loaded_count((6, ()), 8), 9 ** 6)

    def test_there_and_back(self):
        for order in SMALL + LARGE[:8]:
            for n in (1, 2) if order[0] < 5 else (1,):
                maps, loads = rising(order, n), loaded(order, n)
                found = [unload(order, f) for f in maps]
                self.assertEqual(sorted(found), loads, order)
                self.assertEqual([load(order, g) for g in found], maps)

    def test_by_the_words(self):
        chance = random.Random(304)
        for order in SMALL + LARGE + [CHAIN, BACKWARDS, FULL]:
            many, pairs = order
            for most in (3, 50, HUGE):
                g = tuple(chance.randint(0, most) for _ in range(many))
                f = load(order, g)
                self.assertEqual((f.__class__, len(f)), (tuple, many))
                for j in range(many):
                    under = [f[i] for i, k in pairs if k == j]
                    self.assertEqual(f[j] - g[j], max(under) if under else 0)
                self.assertEqual(unload(order, f), g)

    def test_known(self):
        self.assertEqual(load((6, ()), (1, 2, 3, 0, 5, HUGE)), (1, 2, 3, 0, 5, HUGE))
        self.assertEqual(unload((1, ()), (0,)), (0,))
        self.assertEqual(load(BACKWARDS, (1,) * 6), (6, 5, 4, 3, 2, 1))
        self.assertEqual(unload(BACKWARDS, (6, 5, 4, 3, 2, 1)), (1,) * 6)
        self.assertEqual(load(CHAIN, (0,) * 6), (0,) * 6)


class Errors(unittest.TestCase):
    def test_bad_orders(self):
        for value in NEITHER + ROUND:
            for call in (order_polynomial, extensions):
                expect(self, BadOrder, call, value)
            for behind in ((0, 0), None, (-1,), 3, 9):
                for call in (unload, load, loaded_count):
                    expect(self, BadOrder, call, value, behind)

    def test_limits(self):
        for order in (FULL, (6, ()), (1, ()), (2, ((1, 0),)), (6, ((5, 0),))):
            order_polynomial(order)
            self.assertEqual(loaded_count(order, 0), 1)
        expect(self, BadOrder, order_polynomial, (7, ((0, 1),)))

    def test_bad_maps(self):
        wrong = KINDS + ((0, 1), (0, 1, 2, 3), [0, 1, 2], "012", (0, 1, -1), (-1, 0, 0), (0, 1, True), (False, 0, 1), (0, 0, None),
                         (0, 0, "1"), (0, (1,), 2), {0: 0, 1: 1, 2: 2}, 5, -1, 0, 1, HUGE, (0, 1, [2]), (-HUGE, 0, 0))
        for order in ((3, ()), (3, ((0, 1), (1, 2))), (3, ((2, 1),))):
            for value in wrong:
                expect(self, BadMap, unload, order, value)
                expect(self, BadMap, load, order, value)
        for f in ((1, 0, 0), (0, 2, 1), (5, 5, 4), (HUGE, HUGE - 1, HUGE)):
            expect(self, BadMap, unload, (3, ((0, 1), (1, 2))), f)
            load((3, ((0, 1), (1, 2))), f)
        expect(self, BadMap, unload, (2, ((1, 0),)), (0, 1))
        self.assertEqual(unload((2, ((1, 0),)), (1, 0)), (1, 0))

    def test_bad_numbers(self):
        for order in ((1, ()), (3, ((0, 1),)), FULL):
            for n in KINDS + (-1, 9, HUGE, -HUGE, (1,), (1, 2)):
                expect(self, BadNumber, loaded_count, order, n)
