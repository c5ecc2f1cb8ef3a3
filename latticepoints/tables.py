"""Tables of integers with given sums of rows and columns (point 32)."""
from itertools import combinations
from math import comb

from latticepoints.checks import is_between, is_long
from latticepoints.errors import BadSums
from latticepoints.polynomials import through
from latticepoints.shapes import check_number

MOST_SUMS = 4
MOST_SUM = 30
MOST_SQUARE = 3


def check_sums(sums):
    """Raise BadSums if a value is not a tuple of sums of rows or columns."""
    if not is_long(sums, 1, MOST_SUMS) or not all(is_between(number, 0, MOST_SUM) for number in sums):
        raise BadSums("not a tuple of 1 to 4 integers from 0 to 30")


def table_count(rows, columns):
    """Return the number of tables of integers from 0 on with these sums of rows and of columns."""
    check_sums(rows)
    check_sums(columns)
    if sum(rows) != sum(columns):
        return 0
    total = 0
    # What the first two rows leave of the columns is for the others.
    for sums in parts_within(columns, sum(rows[:2])):
        rests = tuple(column - part for column, part in zip(columns, sums))
        total += count_low_tables(rows[:2], sums) * count_low_tables(rows[2:], rests)
    return total


def parts_within(columns, whole):
    """Return all tuples of integers from 0 on, each at most that of columns, with the sum whole."""
    starts = [((), whole)]
    for place, column in enumerate(columns):
        behind = sum(columns[place + 1:])
        starts = [(parts + (part,), rest - part) for parts, rest in starts
                  for part in range(max(0, rest - behind), min(column, rest) + 1)]
    return [parts for parts, _ in starts]


def count_low_tables(rows, columns):
    """Return the number of tables with at most two rows; the sums of all rows and of all columns are equal."""
    # The first row tells the second one.
    if len(rows) < 2:
        return 1
    places = list(range(len(columns)))
    total = 0
    sign = 1
    # All ways to part the first row, less those with too much in one column, and so on.
    for size in range(len(columns) + 1):
        for group in combinations(places, int(size)):
            room = rows[0] - sum(columns[place] + 1 for place in group)
            if room >= 0:
                total += sign * comb(room + len(columns) - 1, len(columns) - 1)
        sign = -sign
    return total


def square_polynomial(size):
    """Return the polynomial whose value at n from 0 on is the number of square tables with all sums n."""
    check_number(size, 1, MOST_SQUARE)
    # Its degree is (size - 1) * (size - 1).
    counts = [table_count((n,) * size, (n,) * size) for n in range((size - 1) * (size - 1) + 1)]
    return through(tuple((count, 1) for count in counts))
