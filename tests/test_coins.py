"""Points 22 and 23: ways to pay, and what cannot be paid."""
import itertools
import random
import unittest
from math import gcd, lcm

from latticepoints.coins import least_by_rest, pay_quasi, two_ways, unpaid, ways, ways_with_all
from latticepoints.errors import BadCoins, BadNumber, TooMany
from tests.plain import fits, quasi_value_of
from tests.wrong import KINDS, NUMBERS, expect

HUGE = 10 ** 40
GREATEST = 10 ** 9
BAD_COINS = KINDS + NUMBERS + (
    [1, 2], (0,), (61,), (-1,), (1, 0), (1, 61), (1, -1), (1, True), (True,), (False, 1), (None, 1), (1, None), ("1",), "12",
    (1, 2, 3, 4, 5, 6), (1,) * 6, (1, (2,)), ((1, 2), 3), (1, [2]), {1: 2}, (HUGE,), (1, HUGE), ((1,),))
FEW = ((1,), (2,), (60,), (1, 1), (2, 2), (1, 2), (2, 3), (3, 5), (4, 6), (1, 1, 1), (2, 2, 2), (1, 2, 3), (2, 3, 6), (3, 4, 12),
       (1, 5, 10, 25), (2, 4, 8, 16), (1, 1, 2, 2), (3, 3, 5), (1, 2, 3, 4, 5), (5, 5, 5, 5, 5), (6, 10, 15), (60, 60, 60, 60, 60),
       (1, 2, 3, 5, 30), (4, 3, 5), (60, 1), (59, 60), (1, 2, 4, 5, 20))


def listed_ways(coins, n, least=0):
    """The number of tuples, by listing them."""
    if not coins:
        return 1 if n == 0 else 0
    return sum(listed_ways(coins[1:], n - coins[0] * k, least) for k in range(least, n // coins[0] + 1))


def counts_of(coins, most):
    """The numbers of ways to pay 0 to most, coin by coin."""
    counts = [1] + [0] * most
    for coin in coins:
        counts = [sum(counts[n::-coin]) for n in range(most + 1)]
    return counts


class Ways(unittest.TestCase):
    def test_against_listing(self):
        for coins in FEW:
            for n in list(range(25)) + [40, 60, 61]:
                self.assertEqual(ways(coins, n), listed_ways(coins, n), (coins, n))
                self.assertEqual(ways_with_all(coins, n), listed_ways(coins, n, 1), (coins, n))

    def test_against_counts(self):
        chance = random.Random(171)
        for _ in range(40):
            coins = tuple(chance.randint(1, 60) for _ in range(chance.randint(1, 5)))
            counts = counts_of(coins, 400)
            for n in (0, 1, 59, 60, 100, 255, 400):
                self.assertEqual(ways(coins, n), counts[n])
                self.assertEqual(ways_with_all(coins, n), counts[n - sum(coins)] if n >= sum(coins) else 0)

    def test_any_order(self):
        for coins in ((1, 2, 3), (3, 5, 7, 7), (60, 1, 59)):
            for other in itertools.permutations(coins):
                self.assertEqual([ways(other, n) for n in (0, 1, 33, 200)], [ways(coins, n) for n in (0, 1, 33, 200)])

    def test_known(self):
        self.assertEqual(ways((1,), 5000), 1)
        self.assertEqual(ways((1, 1), 5000), 5001)
        self.assertEqual(ways((1,) * 5, 5000), 5001 * 5002 * 5003 * 5004 // 24)
        self.assertEqual(ways_with_all((1,) * 5, 5000), 4996 * 4997 * 4998 * 4999 // 24)
        self.assertEqual(ways((1, 5, 10, 25, 50), 100), 292)
        self.assertEqual(ways((60,), 4980), 1)
        self.assertEqual(ways((60,), 5000), 0)
        self.assertEqual(ways((60, 60, 60, 60, 60), 0), 1)
        self.assertEqual(ways_with_all((60, 60, 60, 60, 60), 0), 0)
        self.assertEqual([ways_with_all((60, 60, 60, 60, 60), n) for n in (299, 300, 301, 360)], [0, 1, 0, 5])

    def test_errors(self):
        for call in (ways, ways_with_all):
            for value in BAD_COINS:
                for n in (5, None, -1):
                    expect(self, BadCoins, call, value, n)
            for coins in FEW:
                for n in KINDS + (-1, 5001, HUGE, -HUGE, (5,), (1, 1)):
                    expect(self, BadNumber, call, coins, n)


class PayQuasi(unittest.TestCase):
    def test_values_and_least_number_of_items(self):
        for coins in FEW:
            period = lcm(*coins)
            if period > 60:
                expect(self, TooMany, pay_quasi, coins, most=60)
                continue
            quasi = pay_quasi(coins)
            counts = counts_of(coins, (len(coins) + 2) * period)
            self.assertEqual([quasi_value_of(quasi, n) for n in range(len(counts))], counts, coins)
            self.assertEqual(period % len(quasi), 0)
            for less in range(1, len(quasi)):
                self.assertFalse(fits(counts, less, len(coins) - 1), (coins, less))
            for n in (4999, 5000):
                self.assertEqual(quasi_value_of(quasi, n), ways(coins, n))

    def test_negative_numbers(self):
        for coins in FEW:
            if lcm(*coins) <= 60:
                quasi, total = pay_quasi(coins), sum(coins)
                for n in range(1, total + 130):
                    wanted = listed_or_none(coins, n - total)
                    self.assertEqual(quasi_value_of(quasi, -n) * (-1) ** (len(coins) - 1), wanted, (coins, n))

    def test_known(self):
        self.assertEqual(pay_quasi((1,)), (((1, 1),),))
        self.assertEqual(pay_quasi((2,)), (((1, 1),), ()))
        self.assertEqual(pay_quasi((1, 1)), (((1, 1), (1, 1)),))
        self.assertEqual(pay_quasi((1, 2)), (((1, 1), (1, 2)), ((1, 2), (1, 2))))
        self.assertEqual(pay_quasi((2, 2)), (((1, 1), (1, 2)), ()))
        self.assertEqual(pay_quasi((1, 1, 1)), (((1, 1), (3, 2), (1, 2)),))
        self.assertEqual(pay_quasi((60,)), (((1, 1),),) + ((),) * 59)

    def test_limit(self):
        for coins in ((60, 60), (3, 4, 5), (12, 5, 1), (60, 30, 20, 15, 12)):
            self.assertEqual(len(pay_quasi(coins)), 60)
        for coins, period in (((59,), 59), ((57, 19), 57), ((45, 9, 5), 45), ((53, 1), 53), ((3, 17), 51), ((49, 7), 49)):
            self.assertEqual(len(pay_quasi(coins)), period)
        for coins in ((59, 60), (7, 9), (8, 9), (7, 6, 5), (16, 5), (58, 57), (1, 2, 3, 4, 7), (60, 7), (60, 8), (13, 5)):
            self.assertGreater(lcm(*coins), 60)
            expect(self, TooMany, pay_quasi, coins, most=60)

    def test_errors(self):
        for value in BAD_COINS:
            expect(self, BadCoins, pay_quasi, value)


def listed_or_none(coins, n):
    return counts_of(coins, n)[n] if n >= 0 else 0


class Unpaid(unittest.TestCase):
    def check(self, coins):
        most = 60 * 60
        counts = counts_of(coins, most)
        wanted = tuple(n for n in range(1, most + 1) if not counts[n])
        self.assertEqual(unpaid(coins), wanted, coins)
        low = min(coins)
        by_rest = tuple(next(n for n in range(rest, most + 1, low) if counts[n]) for rest in range(low))
        self.assertEqual(least_by_rest(coins), by_rest, coins)
        # A. Brauer and J. Shockley, E. Selmer.
        self.assertEqual(max((-1, max(by_rest) - low)), max(wanted, default=-1))
        self.assertEqual(2 * len(wanted) * low, 2 * sum(by_rest) - low * (low - 1))

    def test_against_counts(self):
        chance = random.Random(172)
        for coins in FEW:
            if gcd(*coins) == 1:
                self.check(coins)
        done = 0
        while done < 25:
            coins = tuple(chance.randint(1, 60) for _ in range(chance.randint(1, 5)))
            if gcd(*coins) == 1:
                done += 1
                self.check(coins)

    def test_all_small_pairs(self):
        for a, b in itertools.product(range(1, 16), repeat=2):
            if gcd(a, b) == 1:
                found = unpaid((a, b))
                self.assertEqual(len(found), (a - 1) * (b - 1) // 2)
                for n in range(a * b):
                    other = a * b - a - b - n
                    self.assertEqual((n in found or n < 0) + (other in found or other < 0), 1)
                self.assertEqual(found, unpaid((b, a)))

    def test_known(self):
        self.assertEqual(unpaid((3, 5)), (1, 2, 4, 7))
        self.assertEqual(least_by_rest((3, 5)), (0, 10, 5))
        self.assertEqual(unpaid((6, 10, 15))[-1], 29)
        for coins in ((1,), (1, 60), (60, 1), (1, 1), (59, 60, 1)):
            self.assertEqual((unpaid(coins), least_by_rest(coins)), ((), (0,)))
        self.assertEqual(unpaid((59, 60))[-1], 59 * 60 - 59 - 60)
        self.assertEqual(least_by_rest((59, 60)), tuple(60 * k for k in range(59)))
        self.assertEqual(least_by_rest((60, 59)), tuple(60 * k for k in range(59)))
        self.assertEqual(unpaid((60, 58, 59, 60, 60))[-1], 58 * 29 - 1)

    def test_errors(self):
        for call in (unpaid, least_by_rest):
            for value in BAD_COINS + ((2,), (60,), (2, 4), (6, 10, 14), (5, 5), (60, 60, 60, 60, 60), (3, 9, 27, 6)):
                expect(self, BadCoins, call, value)


class TwoWays(unittest.TestCase):
    def test_against_listing(self):
        for a, b in itertools.product(range(1, 13), repeat=2):
            if gcd(a, b) == 1:
                counts = counts_of((a, b), 300)
                self.assertEqual([two_ways(a, b, n) for n in range(301)], counts, (a, b))

    def test_great_coins(self):
        chance = random.Random(173)
        for _ in range(60):
            a, b = chance.randint(1, GREATEST), chance.randint(1, 3000)
            if gcd(a, b) > 1:
                continue
            for n in (0, a, b, a * b, a * b - a - b, chance.randint(0, 4 * a * b), chance.randint(0, 10 ** 18)):
                if 0 <= n <= 10 ** 18:
                    # With x coins a there is a way if the rest is a multiple of b: one x in each b ones.
                    first = next((x for x in range(b) if (n - a * x) % b == 0), None)
                    wanted = len(range(first, n // a + 1, b))
                    self.assertEqual((two_ways(a, b, n), two_ways(b, a, n)), (wanted, wanted), (a, b, n))

    def test_popoviciu(self):
        chance = random.Random(174)
        for _ in range(200):
            a, b = chance.randint(1, GREATEST), chance.randint(1, GREATEST)
            if gcd(a, b) == 1:
                for n in (chance.randint(0, 10 ** 18), chance.randint(0, a * b) if a * b <= 10 ** 18 else 0, a, b):
                    p, q = (pow(b, -1, a) if a > 1 else 0), (pow(a, -1, b) if b > 1 else 0)
                    wanted = (n - b * (p * n % a) - a * (q * n % b)) // (a * b) + 1
                    self.assertEqual(two_ways(a, b, n), wanted)

    def test_exactly_one_has_a_way(self):
        for a, b in ((999999999, 1000000000), (1, 7), (999999937, 2), (31, 1000000000)):
            for n in (0, 1, 5, a - 1, b - 1, a * b - a - b, (a * b - a - b) // 2):
                other = a * b - a - b - n
                if n >= 0:
                    self.assertEqual((two_ways(a, b, n) > 0) + (other >= 0 and two_ways(a, b, other) > 0), 1, (a, b, n))

    def test_known(self):
        self.assertEqual(two_ways(1, 1, 10 ** 18), 10 ** 18 + 1)
        self.assertEqual(two_ways(1, 1, 0), 1)
        self.assertEqual(two_ways(GREATEST, 1, 10 ** 18), GREATEST + 1)
        self.assertEqual(two_ways(1, GREATEST, 10 ** 18 - 1), GREATEST)
        self.assertEqual(two_ways(GREATEST, GREATEST - 1, GREATEST * (GREATEST - 1)), 2)
        self.assertEqual(two_ways(GREATEST, GREATEST - 1, GREATEST * (GREATEST - 1) - 2 * GREATEST + 1), 0)
        self.assertEqual(two_ways(3, 5, 7), 0)

    def test_errors(self):
        wrong = KINDS + (0, -1, GREATEST + 1, HUGE, -HUGE, (3,), (1, 1))
        for value in wrong:
            for n in (5, None, -1):
                expect(self, BadCoins, two_ways, value, 5, n)
                expect(self, BadCoins, two_ways, 5, value, n)
                expect(self, BadCoins, two_ways, value, value, n)
        for a, b in ((2, 2), (2, 4), (6, 9), (GREATEST, 10), (GREATEST, GREATEST)):
            for n in (5, None, -1):
                expect(self, BadCoins, two_ways, a, b, n)
        for value in KINDS + (-1, 10 ** 18 + 1, HUGE, -HUGE, (5,), (1, 1)):
            expect(self, BadNumber, two_ways, 3, 5, value)
