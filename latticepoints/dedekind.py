"""Dedekind sums, and the points under a plane that they count (point 24)."""
from math import gcd

from latticepoints.checks import is_between
from latticepoints.errors import BadPair
from latticepoints.polynomials import evaluated
from latticepoints.ratios import ZERO, minus, plus, ratio
from latticepoints.shapes import check_number

MOST_NUMBER = 1000000000
MOST_SIDE = 1000
MOST_MULTIPLE = 1000000000


def check_apart(numbers, most):
    """Raise BadPair if these are not integers from 1 to most, each two without a common divisor."""
    for number in numbers:
        if not is_between(number, 1, most):
            raise BadPair(f"not an integer from 1 to {most}")
    for place, number in enumerate(numbers):
        if any(gcd(number, other) != 1 for other in numbers[:place]):
            raise BadPair("two numbers have a common divisor")


def dedekind(a, b):
    """Return the Dedekind sum of two integers without a common divisor, a ratio."""
    check_apart((a, b), MOST_NUMBER)
    return sum_of(a, b)


def sum_of(a, b):
    """Return the Dedekind sum of two integers without a common divisor, a from 0 on, b from 1 on."""
    total = ZERO
    sign = 1
    a %= b
    while a > 0:
        # Both exchanged add up to this: R. Dedekind.
        total = plus(total, ratio(sign * (a * a + b * b + 1 - 3 * a * b), 12 * a * b))
        sign = -sign
        a, b = b % a, a
    return total


def corner_count(a, b, c, n):
    """Return the number of points with integers x, y, z from 0 on and x / a + y / b + z / c at most n."""
    check_apart((a, b, c), MOST_SIDE)
    check_number(n, 0, MOST_MULTIPLE)
    total, _ = evaluated(corner_polynomial(a, b, c), n)
    return total


def corner_polynomial(a, b, c):
    """Return the polynomial whose value at n is the number of the points: L. Mordell, 1951."""
    squares = b * b * c * c + c * c * a * a + a * a * b * b
    slope = plus(ratio(3 + a + b + c, 4), ratio(squares + 1, 12 * a * b * c))
    for top, bottom in ((b * c, a), (c * a, b), (a * b, c)):
        slope = minus(slope, sum_of(top, bottom))
    return ((1, 1), slope, ratio(a * b + b * c + c * a + 1, 4), ratio(a * b * c, 6))
