"""Counts of points in the multiples of shapes and of halves (points 9 and 10)."""
from latticepoints.boxes import check_box, count_within, points_within
from latticepoints.errors import TooMany
from latticepoints.halves import check_halves, scaled_corners
from latticepoints.hulls import facets_of, hull_content
from latticepoints.polynomials import least_quasi, quasi_through, through
from latticepoints.shapes import box_of, check_number, check_shape, lifted

MOST_MULTIPLE = 1000
MOST_PERIOD = 60


def counts_of(shape):
    """Return the list of the numbers of points in the multiples 0 to d of a shape."""
    boxes = [box_of(shape, n) for n in range(1, len(shape[0]) + 1)]
    sides = facets_of(shape)
    counts = [1]
    for index, (low, high) in enumerate(boxes):
        counts.append(count_within(lifted(sides, index + 1, 0), low, high))
    return counts


def ehrhart(shape):
    """Return the polynomial whose value at n from 1 on is the number of points in the multiple n of a shape."""
    check_shape(shape)
    return through(tuple((count, 1) for count in counts_of(shape)))


def border_content(shape):
    """Return the sum of the contents that the facets of a shape have in their own lattices."""
    check_shape(shape)
    _, border = hull_content(shape, facets_of(shape))
    return border


def multiplied_pairs(halves, n):
    """Return the pairs of the multiple n of halves."""
    return [(a, n * b) for a, b in halves]


def box_around(scale, places, n):
    """Return the least box with integer corners around the multiple n of the points, places over scale."""
    low = [n * min(column) // scale for column in zip(*places)]
    high = [-(-n * max(column) // scale) for column in zip(*places)]
    check_box(low, high)
    return low, high


def points_of(halves, n):
    """Return the ascending tuple of the points with integer coordinates in the multiple n of halves."""
    check_halves(halves)
    scale, places = scaled_corners(halves)
    check_number(n, 0, MOST_MULTIPLE)
    low, high = box_around(scale, places, n)
    return points_within(multiplied_pairs(halves, n), low, high)


def quasi_count(halves):
    """Return the quasi-polynomial, with the least number of items, that tells the counts of all multiples."""
    check_halves(halves)
    scale, places = scaled_corners(halves)
    if scale > MOST_PERIOD:
        raise TooMany(MOST_PERIOD)
    boxes = [box_around(scale, places, n) for n in range(scale * (len(places[0]) + 1))]
    counts = []
    for n, (low, high) in enumerate(boxes):
        counts.append((count_within(multiplied_pairs(halves, n), low, high), 1))
    return least_quasi(quasi_through(scale, tuple(counts)))
