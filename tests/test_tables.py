"""Point 32: tables with given sums."""
import functools
import itertools
import random
import unittest

from latticepoints.errors import BadNumber, BadSums
from latticepoints.tables import square_polynomial, table_count
from tests.plain import poly_value
from tests.wrong import KINDS, NUMBERS, expect

HUGE = 10 ** 40
BAD_SUMS = KINDS + NUMBERS + ((1, 2, 3, 4, 5), (-1,), (31,), (1, -1), (30, 31), (True,), (1, False), (1, None), (1, "2"), "12",
                              [1, 2], {1: 2}, (1, (2,)), (1, [2]), (HUGE,), (-HUGE, 1), ((1, 2),), (0,) * 5, "1")


def parts_of(whole, limits):
    """All rows with this sum, each number up to its limit."""
    if not limits:
        return [()] if whole == 0 else []
    return [(first,) + rest for first in range(min(whole, limits[0]) + 1) for rest in parts_of(whole - first, limits[1:])]


@functools.lru_cache(maxsize=None)
def plain_count(rows, columns):
    """The number of tables, row by row."""
    if not rows:
        return 1 if not any(columns) else 0
    return sum(plain_count(rows[1:], tuple(sorted(column - part for column, part in zip(columns, parts))))
               for parts in parts_of(rows[0], columns))


def listed_count(rows, columns):
    """The number of tables, by listing all tables."""
    most = max(rows + columns)
    found = 0
    for cells in itertools.product(range(most + 1), repeat=len(rows) * len(columns)):
        table = [cells[k:k + len(columns)] for k in range(0, len(cells), len(columns))]
        found += tuple(map(sum, table)) == rows and tuple(map(sum, zip(*table))) == columns
    return found


def drawn_sums(chance, rows, columns, most):
    """Sums of the rows and columns of a drawn table, each up to most."""
    table = [[0] * columns for _ in range(rows)]
    for _ in range(chance.randint(0, most * max(rows, columns))):
        i, j = chance.randrange(rows), chance.randrange(columns)
        if sum(table[i]) < most and sum(row[j] for row in table) < most:
            table[i][j] += 1
    return tuple(map(sum, table)), tuple(map(sum, zip(*table)))


class Tables(unittest.TestCase):
    def test_listing_of_all_tables(self):
        for size, most in (((1, 1), 4), ((1, 3), 3), ((2, 1), 4), ((2, 2), 4), ((2, 3), 2), ((3, 2), 2)):
            for rows in itertools.product(range(most + 1), repeat=size[0]):
                for columns in itertools.product(range(most + 1), repeat=size[1]):
                    if sum(rows) == sum(columns):
                        wanted = listed_count(rows, columns) if sum(rows) < 5 else plain_count(rows, tuple(sorted(columns)))
                        self.assertEqual(table_count(rows, columns), wanted, (rows, columns))
                    else:
                        self.assertEqual(table_count(rows, columns), 0)

    def test_row_by_row(self):
        chance = random.Random(321)
        for rows, columns in itertools.product(range(1, 5), repeat=2):
            for most in (2, 6):
                for _ in range(4):
                    sums = drawn_sums(chance, rows, columns, most)
                    self.assertEqual(table_count(*sums), plain_count(sums[0], tuple(sorted(sums[1]))), sums)
        for sums in (((9, 8, 7, 6), (5, 5, 10, 10)), ((12, 3, 0, 9), (6, 6, 6, 6)), ((30, 30), (15, 15, 15, 15))):
            self.assertEqual(table_count(*sums), plain_count(sums[0], tuple(sorted(sums[1]))))

    def test_exchange_and_other_orders(self):
        chance = random.Random(322)
        for _ in range(25):
            rows, columns = drawn_sums(chance, chance.randint(1, 4), chance.randint(1, 4), 30)
            found = table_count(rows, columns)
            self.assertGreater(found, 0)
            self.assertEqual(table_count(columns, rows), found)
            others = list(rows), list(columns)
            for other in others:
                chance.shuffle(other)
            self.assertEqual(table_count(tuple(others[0]), tuple(others[1])), found)
            # A row of 0 changes nothing.
            if len(rows) < 4:
                self.assertEqual(table_count(rows + (0,), columns), found)
            if len(columns) < 4:
                self.assertEqual(table_count(rows, (0,) + columns), found)

    def test_edges(self):
        self.assertEqual(table_count((0,), (0,)), 1)
        self.assertEqual(table_count((0, 0, 0, 0), (0, 0, 0, 0)), 1)
        self.assertEqual(table_count((0,), (0, 0)), 1)
        self.assertEqual(table_count((30,), (30,)), 1)
        self.assertEqual(table_count((30,), (1, 9, 0, 20)), 1)
        self.assertEqual(table_count((4, 5, 6, 7), (22,)), 1 if 22 <= 30 else 0)
        self.assertEqual(table_count((30, 30), (30, 30)), 31)
        self.assertEqual(table_count((30, 0), (15, 15)), 1)
        for rows, columns in (((1,), (0,)), ((0,), (30,)), ((30, 30), (30, 29)), ((1, 2, 3), (1, 2, 4)), ((1, 1), (1,)),
                              ((30, 30, 30, 30), (30, 30, 30))):
            self.assertEqual(table_count(rows, columns), 0)
            self.assertEqual(table_count(columns, rows), 0)

    def test_errors(self):
        for value in BAD_SUMS:
            for other in ((1, 2), None, (31,), ()):
                expect(self, BadSums, table_count, value, other)
                expect(self, BadSums, table_count, other, value)
        # The sums differ as well.
        expect(self, BadSums, table_count, (1,), (31,))
        expect(self, BadSums, table_count, (-1,), (1,))


class Squares(unittest.TestCase):
    def test_counts(self):
        for size in (1, 2, 3):
            poly = square_polynomial(size)
            self.assertEqual(len(poly), (size - 1) ** 2 + 1)
            for n in list(range(15)) + [20, 29, 30]:
                self.assertEqual(poly_value(poly, n), table_count((n,) * size, (n,) * size), (size, n))
                if n < 9:
                    self.assertEqual(poly_value(poly, n), plain_count((n,) * size, (n,) * size))

    def test_negative_numbers(self):
        for size in (1, 2, 3):
            poly = square_polynomial(size)
            for n in range(1, size):
                self.assertEqual(poly_value(poly, -n), 0)
            for n in range(40):
                self.assertEqual(poly_value(poly, -n - size), (-1) ** (size - 1) * poly_value(poly, n))

    def test_known(self):
        self.assertEqual(square_polynomial(1), ((1, 1),))
        self.assertEqual(square_polynomial(2), ((1, 1), (1, 1)))
        self.assertEqual(square_polynomial(3), ((1, 1), (9, 4), (15, 8), (3, 4), (1, 8)))

    def test_errors(self):
        for value in KINDS + (0, 4, -1, -3, HUGE, -HUGE, (2,), (1, 2), "2", [2]):
            expect(self, BadNumber, square_polynomial, value)
