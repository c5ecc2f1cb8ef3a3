"""Shapes, the hulls of points with integer coordinates (points 6 and 7)."""
from itertools import combinations

from latticepoints.boxes import bounds_of, check_box, points_within
from latticepoints.checks import is_between, is_long, is_row, is_whole_row
from latticepoints.errors import BadNumber, BadPoint, BadShape, Flat
from latticepoints.hulls import corners_of_hull, edges_of, facets_of, hull_content, ways_from_first
from latticepoints.vectors import determinant, dot

MOST_POINTS = 12
MOST_SIZE = 3
BOUND = 50
MOST_MULTIPLE = 1000


def check_points(shape):
    """Raise BadShape if a value is not a tuple of different points of one dimension."""
    if not is_long(shape, 2, MOST_POINTS):
        raise BadShape(None)
    for index, point in enumerate(shape):
        if not is_row(point, 1, MOST_SIZE, BOUND) or len(point) != len(shape[0]) or point in shape[:index]:
            raise BadShape(index)


def check_span(shape):
    """Raise Flat if no d + 1 of the points span the space."""
    # If any d + 1 points span, then the first point and d others do.
    ways = ways_from_first(shape)
    groups = list(combinations(ways, len(shape[0])))
    if all(determinant(group) == 0 for group in groups):
        raise Flat("the points do not span the space")


def check_shape(shape):
    """Raise BadShape or Flat if a value is no shape."""
    check_points(shape)
    check_span(shape)


def check_number(n, low, high):
    """Raise BadNumber if a value is no integer from low to high."""
    if not is_between(n, low, high):
        raise BadNumber(f"not an integer from {low} to {high}")


def corners(shape):
    """Return the ascending tuple of the points that do not lie in the hull of the others."""
    check_shape(shape)
    return corners_of_hull(shape, facets_of(shape))


def facets(shape):
    """Return the ascending tuple of the facets (a, b) of a shape."""
    check_shape(shape)
    return facets_of(shape)


def place_in(shape, p):
    """Return 1 if a point lies inside of a shape, 0 if on its border, -1 if outside."""
    check_shape(shape)
    if not is_whole_row(p, len(shape[0])):
        raise BadPoint("not a tuple of as many integers as the shape has dimensions")
    most = max(dot(a, p) - b for a, b in facets_of(shape))
    if most > 0:
        return -1
    return 0 if most == 0 else 1


def box_of(shape, n):
    """Return the least and the greatest numbers of the multiple n; TooMany if its box has too many points."""
    low, high = bounds_of(shape, n)
    check_box(low, high)
    return low, high


def lifted(sides, n, gap):
    """Return pairs for the multiple n of the facets, each moved inwards by a gap."""
    return [(a, n * b - gap) for a, b in sides]


def points_of_multiple(shape, n, gap):
    """Return the points of the multiple n that are at least the gap away from each facet."""
    check_shape(shape)
    check_number(n, 1, MOST_MULTIPLE)
    low, high = box_of(shape, n)
    return points_within(lifted(facets_of(shape), n, gap), low, high)


def points_in(shape, n):
    """Return the ascending tuple of the points with integer coordinates in the multiple n of a shape."""
    return points_of_multiple(shape, n, 0)


def inner_points(shape, n):
    """Return the ascending tuple of the points with integer coordinates inside of the multiple n of a shape."""
    # Products of integers that are less than an integer are at least 1 less.
    return points_of_multiple(shape, n, 1)


def content(shape):
    """Return the volume of a shape times d!."""
    check_shape(shape)
    volume, _ = hull_content(shape, facets_of(shape))
    return volume


def face_numbers(shape):
    """Return the number of corners; then, for d = 2, of facets; for d = 3, of edges and of facets."""
    check_shape(shape)
    sides = facets_of(shape)
    ends = corners_of_hull(shape, sides)
    if len(shape[0]) == 1:
        return (len(ends),)
    if len(shape[0]) == 2:
        return (len(ends), len(sides))
    return (len(ends), len(edges_of(ends, sides)), len(sides))
