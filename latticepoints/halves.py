"""Halves: pairs (a, b) that stand for all points x with a * x at most b for each pair (point 8)."""
from itertools import combinations
from math import lcm

from latticepoints.checks import is_between, is_long, is_row
from latticepoints.errors import BadHalves, Empty, Unbounded
from latticepoints.ratios import ratio
from latticepoints.vectors import across, determinant, divisor_of, dot, opposite

MOST_PAIRS = 10
MOST_SIZE = 3
BOUND = 50
MOST_LIMIT = 1000


def is_half(value):
    """Tell whether a value is a pair of a tuple of integers, not all 0, and an integer, in their limits."""
    if not is_long(value, 2, 2) or not is_row(value[0], 1, MOST_SIZE, BOUND):
        return False
    return divisor_of(value[0]) > 0 and is_between(value[1], -MOST_LIMIT, MOST_LIMIT)


def check_pairs(halves):
    """Raise BadHalves if a value is not a tuple of pairs of one dimension."""
    if not is_long(halves, 2, MOST_PAIRS):
        raise BadHalves(None)
    for index, pair in enumerate(halves):
        if not is_half(pair) or len(pair[0]) != len(halves[0][0]):
            raise BadHalves(index)


def check_bounded(halves):
    """Raise Unbounded if a tuple r, not all 0, has a * r at most 0 for each pair."""
    rows = [a for a, _ in halves]
    size = len(rows[0])
    normals = [across(group, size) for group in combinations(rows, int(size - 1))]
    found = [normal for normal in normals if divisor_of(normal) > 0]
    # Without any, all tuples a are multiples of one, and a tuple across it has no end. Else the tuples r make
    # a cone which, if there are any, has an edge or a line, and that is across d - 1 of the tuples a.
    if not found or any(is_ray(rows, r) or is_ray(rows, opposite(r)) for r in found):
        raise Unbounded("the set has no end in some direction")


def is_ray(rows, r):
    """Tell whether a * r is at most 0 for each of the rows."""
    return all(dot(a, r) <= 0 for a in rows)


def check_halves(halves):
    """Raise BadHalves or Unbounded if a value is no halves."""
    check_pairs(halves)
    check_bounded(halves)


def meeting_point(group):
    """Return (tops, bottom) for the one point tops over bottom where d pairs are equal, None without just one."""
    bottom = determinant([a for a, _ in group])
    if bottom == 0:
        return None
    tops = [determinant([a[:k] + (b,) + a[k + 1:] for a, b in group]) for k in range(len(group))]
    by = divisor_of(tops + [bottom])
    if bottom < 0:
        by = -by
    return (tuple(top // by for top in tops), bottom // by)


def fulfils(halves, tops, bottom):
    """Tell whether the point tops over bottom, bottom above 0, fulfils all pairs."""
    return all(dot(a, tops) <= b * bottom for a, b in halves)


def scaled_corners(halves):
    """Return the least common multiple of the denominators of all corners, and the corners times it, ascending."""
    pairs = list(halves)
    found = {}
    for group in combinations(pairs, len(halves[0][0])):
        point = meeting_point(group)
        if point is not None and fulfils(halves, point[0], point[1]):
            found[point] = True
    if not found:
        raise Empty("no point fulfils all halves")
    scale = 1
    for _, bottom in found:
        scale = lcm(scale, bottom)
    return scale, sorted([tuple(top * (scale // bottom) for top in tops) for tops, bottom in found])


def corners_of(halves):
    """Return the ascending tuple of the corners of the set, tuples of ratios."""
    check_halves(halves)
    scale, places = scaled_corners(halves)
    return tuple(tuple(ratio(number, scale) for number in place) for place in places)
