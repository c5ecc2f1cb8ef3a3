"""Steps of fractions, plane cones and their sails, and sums of whole parts (points 25 and 26)."""
from math import gcd

from latticepoints.checks import is_between, is_long, is_row
from latticepoints.errors import BadPair, BadSteps, TooMany
from latticepoints.plane import turn
from latticepoints.ratios import ratio
from latticepoints.shapes import check_number
from latticepoints.stepping import steps_of, sums_between

MOST_NUMBER = 1000000000
MOST_ROW = 60
MOST_STEP = 1000
BOUND = 1000
MOST_POINTS = 2000


def steps(n, m):
    """Return the tuple of the steps of n / m."""
    if not is_between(n, 2, MOST_NUMBER):
        raise BadPair("not an integer from 2 to 10 ** 9")
    if not is_between(m, 1, n - 1) or gcd(n, m) != 1:
        raise BadPair("not an integer from 1 to n - 1 without a common divisor with n")
    return tuple(steps_of(n, m))


def from_steps(row):
    """Return the ratio that has these steps."""
    if not is_long(row, 1, MOST_ROW) or not all(is_between(number, 2, MOST_STEP) for number in row):
        raise BadSteps("not a tuple of 1 to 60 integers from 2 to 1000")
    n, m = 1, 0
    for step in reversed(row):
        n, m = step * n - m, n
    return ratio(n, m)


def check_cone(one, other):
    """Raise BadPair if two values are not pairs that make a cone."""
    for value in (one, other):
        if not is_row(value, 2, 2, BOUND) or gcd(value[0], value[1]) != 1:
            raise BadPair("not a pair of integers without a common divisor")
    if turn(one, other) == 0:
        raise BadPair("the determinant is 0")


def row_of_sums(one, other):
    """Return the least sums of two pairs and the steps between them; or TooMany."""
    check_cone(one, other)
    points, between = sums_between(one, other)
    if len(points) > MOST_POINTS:
        raise TooMany(MOST_POINTS)
    return points, between


def least_sums(one, other):
    """Return the tuple of the points of a cone that are not sums of others, from one pair to the other."""
    points, _ = row_of_sums(one, other)
    return tuple(points)


def sail(one, other):
    """Return the tuple of the corners of the hull of all points of a cone but (0, 0), from one pair to the other."""
    points, between = row_of_sums(one, other)
    inner = [point for point, step in zip(points[1:], between) if step > 2]
    return tuple([one] + inner + [other])


def floor_sum(n, m, a, b):
    """Return the sum, for i from 0 to n - 1, of the greatest integer that is at most (a * i + b) / m."""
    check_number(n, 0, MOST_NUMBER)
    check_number(m, 1, MOST_NUMBER)
    check_number(a, -MOST_NUMBER, MOST_NUMBER)
    check_number(b, -MOST_NUMBER, MOST_NUMBER)
    total = 0
    while n > 0:
        total += n * (n - 1) // 2 * (a // m) + n * (b // m)
        a, b = a % m, b % m
        # What is left are the points with y from 1 on under a line: they are counted row by row from its far end.
        last = a * n + b
        n, b = last // m, last % m
        m, a = a, m
    return total
