"""Point 24: Dedekind sums, and the points under a plane."""
import itertools
import random
import unittest
from fractions import Fraction
from math import gcd

from latticepoints.dedekind import corner_count, dedekind
from latticepoints.errors import BadNumber, BadPair
from tests.plain import as_fraction, as_ratio
from tests.wrong import KINDS, expect

HUGE = 10 ** 40
GREATEST = 10 ** 9
WRONG = KINDS + (0, -1, -5, GREATEST + 1, HUGE, -HUGE, (3,), (1, 1), [5], {5: 5}, "5")


def by_definition(a, b):
    half = Fraction(1, 2)
    return sum((Fraction(k, b) - half) * (Fraction(k * a % b, b) - half) for k in range(1, b))


def drawn_pairs(seed, many, most=GREATEST):
    chance = random.Random(seed)
    found = []
    while len(found) < many:
        a, b = chance.randint(1, most), chance.randint(1, most)
        if gcd(a, b) == 1:
            found.append((a, b))
    return found


def fibonacci():
    row = [1, 1]
    while row[-1] + row[-2] <= GREATEST:
        row.append(row[-1] + row[-2])
    return row


GREAT = ([(1, GREATEST), (GREATEST, 1), (GREATEST - 1, GREATEST), (GREATEST, GREATEST - 1), (999999937, GREATEST),
          (2, GREATEST - 1), (GREATEST - 1, 2), tuple(fibonacci()[-2:]), tuple(fibonacci()[:-3:-1]), (1, 1), (1, 2), (2, 1)]
         + drawn_pairs(241, 60) + drawn_pairs(242, 40, 2000))


class Dedekind(unittest.TestCase):
    def test_by_definition(self):
        for a, b in itertools.product(range(1, 41), repeat=2):
            if gcd(a, b) == 1:
                self.assertEqual(dedekind(a, b), as_ratio(by_definition(a, b)), (a, b))

    def test_great_first_numbers_by_definition(self):
        for b in (1, 2, 3, 7, 30, 97):
            for a in (GREATEST, GREATEST - 1, 999999937, 10 ** 8 + 7):
                if gcd(a, b) == 1:
                    self.assertEqual(dedekind(a, b), as_ratio(by_definition(a, b)))
                    if a % b:
                        self.assertEqual(dedekind(a, b), dedekind(a % b, b))

    def test_exchange_of_two(self):
        for a, b in GREAT:
            found = as_fraction(dedekind(a, b)) + as_fraction(dedekind(b, a))
            wanted = (Fraction(a, b) + Fraction(b, a) + Fraction(1, a * b)) / 12 - Fraction(1, 4)
            self.assertEqual(found, wanted, (a, b))

    def test_exchange_of_three(self):
        chance = random.Random(243)
        done = 0
        while done < 60:
            most = chance.choice((12, 2000, GREATEST))
            a, b, c = [chance.randint(2, most) for _ in range(3)]
            if not gcd(a, b) == gcd(a, c) == gcd(b, c) == 1:
                continue
            done += 1
            x, y, z = pow(b, -1, a), pow(c, -1, b), pow(a, -1, c)
            found = sum(as_fraction(dedekind(top % bottom, bottom))
                        for top, bottom in ((c * x, a), (a * y, b), (b * z, c)))
            wanted = (Fraction(a, b * c) + Fraction(b, a * c) + Fraction(c, a * b)) / 12 - Fraction(1, 4)
            self.assertEqual(found, wanted, (a, b, c))

    def test_signs_and_inverses(self):
        for a, b in GREAT:
            if b > 2:
                rest = a % b
                self.assertEqual(dedekind(b - rest, b), (-dedekind(rest, b)[0], dedekind(rest, b)[1]))
                self.assertEqual(dedekind(pow(a, -1, b), b), dedekind(a, b))

    def test_known(self):
        for a in (1, 2, 7, GREATEST):
            self.assertEqual(dedekind(a, 1), (0, 1))
        for a in (1, 3, GREATEST - 1):
            self.assertEqual(dedekind(a, 2), (0, 1))
        for b in (3, 4, 10, 999, GREATEST):
            self.assertEqual(dedekind(1, b), as_ratio(Fraction((b - 1) * (b - 2), 12 * b)))
        self.assertEqual(dedekind(2, 5), (0, 1))

    def test_errors(self):
        for value in WRONG:
            for other in (1, 5, None, 0):
                expect(self, BadPair, dedekind, value, other)
                expect(self, BadPair, dedekind, other, value)
        for a, b in ((2, 2), (4, 6), (6, 4), (GREATEST, 10), (10, GREATEST), (GREATEST, GREATEST), (3, 999999999)):
            expect(self, BadPair, dedekind, a, b)
        for a, b in ((GREATEST + 1, 1), (1, GREATEST + 1), (GREATEST + 1, 2), (3, GREATEST + 1)):
            self.assertEqual(gcd(a, b), 1)
            expect(self, BadPair, dedekind, a, b)


def listed(a, b, c, n):
    """The number of points, by listing x and y."""
    total = 0
    for x in range(n * a + 1):
        for y in range(n * b + 1):
            rest = n * a * b - x * b - y * a
            if rest >= 0:
                total += rest * c // (a * b) + 1
    return total


def mordell(a, b, c, n):
    """The polynomial that the document tells, with Dedekind sums by their definition."""
    sums = sum(by_definition(top % bottom, bottom) for top, bottom in ((b * c, a), (c * a, b), (a * b, c)))
    slope = (Fraction(3, 4) + Fraction(a + b + c, 4)
             + (Fraction(b * c, a) + Fraction(c * a, b) + Fraction(a * b, c) + Fraction(1, a * b * c)) / 12 - sums)
    return 1 + slope * n + Fraction(a * b + b * c + c * a + 1, 4) * n ** 2 + Fraction(a * b * c, 6) * n ** 3


def coprime(a, b, c):
    return gcd(a, b) == gcd(a, c) == gcd(b, c) == 1


class CornerCount(unittest.TestCase):
    def test_listing_of_all_small_points(self):
        for a, b, c in itertools.product(range(1, 6), repeat=3):
            if coprime(a, b, c):
                for n in range(3):
                    box = itertools.product(range(n * a + 1), range(n * b + 1), range(n * c + 1))
                    wanted = sum(x * b * c + y * a * c + z * a * b <= n * a * b * c for x, y, z in box)
                    self.assertEqual(corner_count(a, b, c, n), wanted, (a, b, c, n))
                    self.assertEqual(listed(a, b, c, n), wanted)

    def test_listing(self):
        chance = random.Random(244)
        done = 0
        while done < 40:
            a, b, c = [chance.randint(1, 40) for _ in range(3)]
            if coprime(a, b, c):
                done += 1
                for n in (0, 1, 2, 3):
                    self.assertEqual(corner_count(a, b, c, n), listed(a, b, c, n), (a, b, c, n))

    def test_polynomial_for_great_numbers(self):
        chance = random.Random(245)
        done = 0
        while done < 25:
            a, b, c = [chance.randint(1, 1000) for _ in range(3)]
            if coprime(a, b, c):
                done += 1
                for n in (0, 1, 7, 10 ** 5 + 1, GREATEST - 1, GREATEST):
                    self.assertEqual(corner_count(a, b, c, n), mordell(a, b, c, n), (a, b, c, n))
        for a, b, c in ((1000, 999, 997), (1, 1000, 999), (1, 1, 1000)):
            for order in itertools.permutations((a, b, c)):
                self.assertEqual(corner_count(*order, GREATEST), mordell(a, b, c, GREATEST))

    def test_known(self):
        self.assertEqual(corner_count(1, 1, 1, GREATEST), (GREATEST + 1) * (GREATEST + 2) * (GREATEST + 3) // 6)
        self.assertEqual(corner_count(1000, 999, 997, 0), 1)
        self.assertEqual(corner_count(1, 1, 1, 0), 1)

    def test_errors(self):
        for value in WRONG + (1001,):
            for n in (5, None, -1):
                expect(self, BadPair, corner_count, value, 3, 5, n)
                expect(self, BadPair, corner_count, 3, value, 5, n)
                expect(self, BadPair, corner_count, 3, 5, value, n)
        for numbers in ((2, 2, 3), (2, 3, 2), (3, 2, 2), (6, 35, 10), (1000, 1000, 1), (15, 7, 21), (2, 3, 1001)):
            for n in (0, 5, True, GREATEST + 1):
                expect(self, BadPair, corner_count, *numbers, n)
        for n in KINDS + (-1, GREATEST + 1, HUGE, -HUGE, (3,), "5"):
            expect(self, BadNumber, corner_count, 1, 2, 3, n)
