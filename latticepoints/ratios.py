"""Ratios: tuples (numerator, denominator) in lowest terms, the denominator positive."""
from math import gcd

from latticepoints.checks import is_long, is_whole

ZERO = (0, 1)


def is_ratio(value):
    """Tell whether a value is a ratio."""
    if not is_long(value, 2, 2) or not is_whole(value[0]) or not is_whole(value[1]):
        return False
    return value[1] > 0 and gcd(value[0], value[1]) == 1


def are_ratios(value):
    """Tell whether a value is a tuple of ratios, of any length."""
    return isinstance(value, tuple) and all(is_ratio(item) for item in value)


def ratio(top, bottom):
    """Return the ratio of two integers, the second one not 0."""
    by = gcd(top, bottom)
    if bottom < 0:
        by = -by
    return (top // by, bottom // by)


def plus(one, other):
    """Return the sum of two ratios."""
    return ratio(one[0] * other[1] + other[0] * one[1], one[1] * other[1])


def minus(one, other):
    """Return one ratio less another."""
    return ratio(one[0] * other[1] - other[0] * one[1], one[1] * other[1])


def times(one, other):
    """Return the product of two ratios."""
    return ratio(one[0] * other[0], one[1] * other[1])


def over(one, number):
    """Return a ratio over an integer other than 0."""
    return ratio(one[0], one[1] * number)


def weighed(numbers, ratios):
    """Return the sum of the products of integers and ratios."""
    total = ZERO
    for number, part in zip(numbers, ratios):
        total = plus(total, times((number, 1), part))
    return total


def divided(one, other):
    """Return a ratio over another one, which is not 0."""
    return ratio(one[0] * other[1], one[1] * other[0])


def whole_power(base, n):
    """Return an integer to the power n, from 0 on."""
    total = 1
    while n > 0:
        if n % 2 == 1:
            total *= base
        base *= base
        n //= 2
    return total


def raised(one, n):
    """Return a ratio other than 0 to the power of any integer."""
    if n < 0:
        return ratio(whole_power(one[1], -n), whole_power(one[0], -n))
    return (whole_power(one[0], n), whole_power(one[1], n))
