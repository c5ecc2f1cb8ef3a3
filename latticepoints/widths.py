"""Widths of shapes, their products and pyramids (points 11 and 12)."""
from itertools import combinations

from latticepoints.errors import TooMany
from latticepoints.hulls import ways_from_first
from latticepoints.lattices import reduced
from latticepoints.shapes import check_shape
from latticepoints.vectors import combined, determinant, dot

MOST_SIZE = 3
MOST_POINTS = 12


def width(shape):
    """Return (w, a), the least width w of a shape and a tuple a along which it has it."""
    check_shape(shape)
    ways = widest_ways(shape)
    basis, factors = reduced(list(zip(*ways)))
    bound = 1
    thinnest = thinnest_within(shape, basis, factors, bound)
    # A tuple with a width up to the bound cannot be left out; beyond it one might be.
    while thinnest is None or thinnest[0] > bound:
        bound *= 2
        thinnest = thinnest_within(shape, basis, factors, bound)
    return thinnest


def widest_ways(shape):
    """Return d ways from the first point of some d + 1 points to the others, with the greatest determinant."""
    points = list(shape)
    simplexes = [ways_from_first(group) for group in combinations(points, len(shape[0]) + 1)]
    # With the greatest one the shape is not much longer along any tuple than these ways are,
    # so few tuples are looked at in vain.
    return max(simplexes, key=spread)


def spread(ways):
    """Return the absolute determinant of ways."""
    return abs(determinant(ways))


def width_along(shape, a):
    """Return the width of a shape along a tuple."""
    products = [dot(a, point) for point in shape]
    return max(products) - min(products)


def thinnest_within(shape, basis, factors, bound):
    """Return the least (w, a) of all a whose products with the ways are from -bound to bound, None without any."""
    found = [combined(numbers, factors) for numbers in short_sums(basis, bound)]
    pairs = [(width_along(shape, a), a) for a in found if any(a)]
    return min(pairs, default=None)


def short_sums(basis, bound):
    """Return the factors of all sums of a square basis whose numbers are from -bound to bound."""
    found = [((), (0,) * len(basis))]
    for column, row in enumerate(basis):
        step = row[column]
        longer = []
        for numbers, total in found:
            low = -((bound + total[column]) // step)
            high = (bound - total[column]) // step
            for number in range(low, high + 1):
                longer.append((numbers + (number,), tuple(x + number * y for x, y in zip(total, row))))
        found = longer
    return [numbers for numbers, _ in found]


def product(one, other):
    """Return the ascending tuple of all points of one shape, each with those of the other behind it."""
    check_shape(one)
    check_shape(other)
    if len(one[0]) + len(other[0]) > MOST_SIZE:
        raise TooMany(MOST_SIZE)
    if len(one) * len(other) > MOST_POINTS:
        raise TooMany(MOST_POINTS)
    return tuple(sorted([p + q for p in one for q in other]))


def pyramid(shape):
    """Return the ascending tuple of the points of a shape with a 0 behind, and the top of a pyramid over it."""
    check_shape(shape)
    if len(shape[0]) == MOST_SIZE:
        raise TooMany(MOST_SIZE)
    if len(shape) >= MOST_POINTS:
        raise TooMany(MOST_POINTS)
    top = (0,) * len(shape[0]) + (1,)
    return tuple(sorted([point + (0,) for point in shape] + [top]))
