"""Few signed parts of plane cones, and sums of powers over points (point 21)."""
from latticepoints.checks import is_row
from latticepoints.errors import BadGrade, BadPair
from latticepoints.lattices import bezout
from latticepoints.shapes import check_number, check_shape
from latticepoints.sums import sum_in_multiple
from latticepoints.vectors import combined, determinant, divisor_of

MOST_NUMBER = 1000000000
BOUND = 50
MOST_POWER = 4


def check_pair(value):
    """Raise BadPair if a value is not a pair of integers in the limits without a common divisor."""
    if not is_row(value, 2, 2, MOST_NUMBER) or divisor_of(value) != 1:
        raise BadPair("not a pair of integers without a common divisor")


def short_parts(one, other):
    """Return triples (sign, u, v) whose cones add up, with their signs, to the cone of two pairs."""
    check_pair(one)
    check_pair(other)
    whole = determinant((one, other))
    if whole == 0:
        raise BadPair("the determinant is 0")
    if whole > 0:
        return parts_between(one, other)
    return parts_between(other, one)


def parts_between(first, last):
    """Return the triples for two pairs whose determinant is above 0."""
    x, y = bezout(first[0], first[1])
    side = (-y, x)
    # The last one is top times the first one and bottom times the side. The convergents of top over bottom lead
    # to it, all of them on the one side of the first one, and so their cones add up.
    top = determinant((last, side))
    bottom = determinant((first, last))
    before, here = side, first
    sign = 1
    found = []
    while bottom > 0:
        turn = top // bottom
        top, bottom = bottom, top - turn * bottom
        before, here = here, combined((turn, 1), (here, before))
        found.append((sign, before, here))
        sign = -sign
    return tuple(found)


def power_sum(shape, a, power, n):
    """Return the sum of (a * p) to the power over the points p with integer coordinates of the multiple n."""
    check_shape(shape)
    if not is_row(a, len(shape[0]), len(shape[0]), BOUND):
        raise BadGrade("not a tuple of as many integers as the shape has dimensions")
    check_number(power, 0, MOST_POWER)
    check_number(n, 0, MOST_NUMBER)
    return sum_in_multiple(shape, a, power, n)
