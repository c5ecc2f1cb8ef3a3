"""Point 23: the greatest integer that three coins cannot pay."""
import heapq
import itertools
import random
import unittest
from math import gcd

from latticepoints.errors import BadPair, TooMany
from latticepoints.threecoins import greatest_unpaid
from tests.wrong import KINDS, expect

HUGE = 10 ** 40
GREATEST = 10 ** 9


def coprime(a, b, c):
    return gcd(a, b) == gcd(a, c) == gcd(b, c) == 1


def greatest_by_listing(coins):
    low = min(coins)
    paid, n, run = [True], 0, 0
    while run < low:
        n += 1
        paid.append(any(n >= coin and paid[n - coin] for coin in coins))
        run = run + 1 if paid[n] else 0
    return n - low


def greatest_by_rests(a, b, c):
    """By the least payable integers of all rests modulo a, found as shortest ways."""
    best, queue = {}, [(0, 0)]
    while queue:
        n, rest = heapq.heappop(queue)
        if rest not in best:
            best[rest] = n
            for coin in (b, c):
                heapq.heappush(queue, (n + coin, (rest + coin) % a))
    return max(best.values()) - a


def many_steps(a, b, c):
    """The number of steps of a / r, r being the rest of the inverse of b times c; 2001 if there are more."""
    many, n, m = 0, a, pow(b, -1, a) * c % a
    while m and many <= 2000:
        n, m, many = m, -n % m, many + 1
    return many


class Greatest(unittest.TestCase):
    def check(self, coins, wanted):
        for a, b, c in itertools.permutations(coins):
            if many_steps(a, b, c) > 2000:
                expect(self, TooMany, greatest_unpaid, a, b, c, most=2000)
            else:
                self.assertEqual(greatest_unpaid(a, b, c), wanted, (a, b, c))

    def test_small_coins_in_all_orders(self):
        tried = 0
        for coins in itertools.combinations(range(2, 32), 3):
            if coprime(*coins):
                tried += 1
                self.check(coins, greatest_by_listing(coins))
        self.assertGreater(tried, 900)

    def test_coins_that_others_pay(self):
        # The third coin is a sum of the others, or far above them.
        for a, b in ((2, 3), (3, 4), (5, 7), (11, 13)):
            for k, j in itertools.product(range(4), repeat=2):
                c = a * k + b * j
                if c > 1 and coprime(a, b, c):
                    self.check((a, b, c), a * b - a - b)
        self.check((2, 3, GREATEST - 1 if (GREATEST - 1) % 3 else GREATEST - 3), 1)

    def test_greater_coins(self):
        chance = random.Random(181)
        done = 0
        while done < 40:
            coins = (chance.randint(2, 900), chance.randint(2, 10 ** 6), chance.randint(2, GREATEST))
            if coprime(*coins):
                done += 1
                self.assertLess(coins[0], 2001)
                wanted = greatest_by_rests(*coins)
                self.assertEqual(greatest_unpaid(*coins), wanted, coins)
                self.assertEqual(greatest_unpaid(coins[0], coins[2], coins[1]), wanted, coins)

    def test_greatest_coins_in_all_orders(self):
        chance = random.Random(182)
        found = 0
        while found < 25:
            coins = tuple(chance.randint(GREATEST - 10 ** 6, GREATEST) for _ in range(3))
            if not coprime(*coins):
                continue
            told = set()
            for order in itertools.permutations(coins):
                if many_steps(*order) <= 2000:
                    told.add(greatest_unpaid(*order))
                else:
                    expect(self, TooMany, greatest_unpaid, *order, most=2000)
            if told:
                found += 1
                self.assertEqual(len(told), 1, coins)
                self.assertGreater(min(told), max(coins))

    def test_limit_of_the_steps(self):
        # Steps of 2 only: a less 1 of them.
        self.assertEqual(many_steps(2001, 2, 1999), 2000)
        self.assertEqual(greatest_unpaid(2001, 2, 1999), 1997)
        self.assertEqual(greatest_unpaid(2001, 1999, 2), 1997)
        self.assertEqual(many_steps(2002, 3, 1999), 2001)
        expect(self, TooMany, greatest_unpaid, 2002, 3, 1999, most=2000)
        expect(self, TooMany, greatest_unpaid, 2002, 1999, 3, most=2000)
        self.assertEqual(greatest_unpaid(3, 2002, 1999), greatest_by_rests(3, 1999, 2002))
        self.assertEqual(greatest_unpaid(1999, 3, 2002), greatest_by_rests(3, 1999, 2002))
        expect(self, TooMany, greatest_unpaid, GREATEST - 1, GREATEST - 3, 2, most=2000)
        self.assertEqual(greatest_unpaid(2, GREATEST - 3, GREATEST - 1), GREATEST - 5)

    def test_least_coins(self):
        for order in itertools.permutations((2, 3, 5)):
            self.assertEqual(greatest_unpaid(*order), 1)
        for order in itertools.permutations((3, 4, 5)):
            self.assertEqual(greatest_unpaid(*order), 2)

    def test_errors(self):
        wrong = KINDS + (0, 1, -1, -2, GREATEST + 1, HUGE, -HUGE, (3,), (1, 1))
        for value in wrong:
            expect(self, BadPair, greatest_unpaid, value, 5, 7)
            expect(self, BadPair, greatest_unpaid, 5, value, 7)
            expect(self, BadPair, greatest_unpaid, 5, 7, value)
            expect(self, BadPair, greatest_unpaid, value, value, value)
        # Coins beyond the greatest one that have no common divisor with the others.
        for order in itertools.permutations((GREATEST + 1, 3, 5)):
            self.assertTrue(coprime(*order))
            expect(self, BadPair, greatest_unpaid, *order)
        for coins in ((2, 3, 4), (2, 3, 3), (5, 5, 7), (6, 10, 15), (GREATEST, GREATEST - 1, 3), (6, 35, 143 * 7), (2, 2, 2)):
            for order in itertools.permutations(coins):
                expect(self, BadPair, greatest_unpaid, *order)
        # More than 2000 steps as well, but the coins have a common divisor.
        expect(self, BadPair, greatest_unpaid, 4002, 3, 3999)
