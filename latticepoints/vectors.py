"""Sums, common divisors and determinants of tuples of integers."""
from math import gcd


def dot(one, other):
    """Return the sum of the products of two tuples."""
    return sum(x * y for x, y in zip(one, other))


def less(one, other):
    """Return the way from the point other to the point one."""
    return tuple(x - y for x, y in zip(one, other))


def combined(factors, rows):
    """Return the sum of the rows times their factors; there is at least one row."""
    return tuple(dot(factors, column) for column in zip(*rows))


def divisor_of(numbers):
    """Return the greatest common divisor, 0 if all numbers are 0."""
    found = 0
    for number in numbers:
        found = gcd(found, number)
    return found


def primitive(vector):
    """Return a vector that is not 0 over the common divisor of its numbers."""
    by = divisor_of(vector)
    return tuple(number // by for number in vector)


def opposite(vector):
    """Return the vector with the other signs."""
    return tuple(-number for number in vector)


def across(rows, size):
    """Return the vector whose product with any row of this size is the determinant of it and the rows."""
    minors = [determinant([row[:k] + row[k + 1:] for row in rows]) for k in range(size)]
    return tuple(-minor if k % 2 else minor for k, minor in enumerate(minors))


def determinant(rows):
    """Return the determinant of a list of as many tuples as each of them has numbers."""
    if not rows:
        return 1
    return dot(rows[0], across(rows[1:], len(rows)))
