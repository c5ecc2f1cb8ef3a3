"""Star numbers, half-open simplices and their box points (points 13 and 14)."""
from latticepoints.checks import are_places
from latticepoints.errors import BadOpen, NotSimplex
from latticepoints.hulls import cut_hull, facets_of
from latticepoints.multiples import counts_of
from latticepoints.shapes import check_points, check_shape, check_span
from latticepoints.tiles import open_places, tile


def star(shape):
    """Return the star numbers (h0, .., hd) of a shape."""
    check_shape(shape)
    numbers = counts_of(shape)
    # The series of the counts is that of the star numbers over 1 less the variable, d + 1 times.
    for _ in range(len(shape[0]) + 1):
        numbers = [one - other for one, other in zip(numbers, [0] + numbers)]
    return tuple(numbers)


def half_open(shape):
    """Return half-open simplices such that each point of the hull is in exactly one of them."""
    check_shape(shape)
    lifted = [(1,) + point for point in shape]
    found = []
    for simplex in cut_hull(shape, facets_of(shape)):
        indexes = sorted([shape.index(point) for point in simplex])
        found.append((tuple(indexes), open_places([lifted[index] for index in indexes], lifted)))
    return tuple(found)


def box_points(points, places):
    """Return the ascending tuple of the pairs (height, p) of a half-open simplex."""
    check_points(points)
    if len(points) != len(points[0]) + 1:
        raise NotSimplex("not one point more than dimensions")
    check_span(points)
    if not are_places(places, len(points)):
        raise BadOpen("not ascending integers from 0 to d")
    found = tile([(1,) + point for point in points], places)
    return tuple((p[0], p[1:]) for p in sorted(found))
