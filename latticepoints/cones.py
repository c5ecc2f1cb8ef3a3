"""Cones, their box points, and their series (points 18 and 19)."""
from latticepoints.checks import are_places, is_long, is_row, is_whole_row
from latticepoints.errors import BadCone, BadFactors, BadGrade, BadPoint, Pole
from latticepoints.ratios import ZERO, are_ratios, divided, minus, raised, times, whole_power
from latticepoints.shapes import check_number
from latticepoints.tiles import inner_rows, tile
from latticepoints.vectors import combined, determinant, divisor_of, dot, less, primitive

MOST_SIZE = 3
BOUND = 50
APEX_BOUND = 1000
MOST_GRADE = 60


def is_cone(value):
    """Tell whether a value is a cone (apex, vectors, places)."""
    if not is_long(value, 3, 3) or not is_row(value[0], 1, MOST_SIZE, APEX_BOUND):
        return False
    apex, vectors, places = value
    return are_vectors(vectors, len(apex)) and are_places(places, len(apex))


def are_vectors(value, size):
    """Tell whether a value is as many tuples as size, without a common divisor each, whose determinant is not 0."""
    if not is_long(value, size, size) or not all(is_row(vector, size, size, BOUND) for vector in value):
        return False
    return all(divisor_of(vector) == 1 for vector in value) and determinant(value) != 0


def check_cone(cone):
    """Raise BadCone if a value is no cone."""
    if not is_cone(cone):
        raise BadCone("not a cone")


def in_cone(cone, p):
    """Tell whether a point is in a cone."""
    check_cone(cone)
    apex, vectors, places = cone
    if not is_whole_row(p, len(apex)):
        raise BadPoint("not a tuple of as many integers as the cone has dimensions")
    way = less(p, apex)
    parts = [dot(row, way) for row in inner_rows(vectors)]
    return min(parts) >= 0 and all(parts[k] > 0 for k in places)


def cone_rows(cone):
    """Return the rows, one for each vector, whose product with it is above 0, and with the others 0."""
    check_cone(cone)
    return tuple(primitive(row) for row in inner_rows(cone[1]))


def cone_box(cone):
    """Return the ascending tuple of the points from which sums of vectors lead to all points of a cone."""
    check_cone(cone)
    return tuple(sorted(points_of_box(cone)))


def points_of_box(cone):
    """Return the list of the points of the box of a cone."""
    apex, vectors, places = cone
    return [combined((1, 1), (apex, p)) for p in tile(vectors, places)]


def check_factors(z, size):
    """Raise BadFactors if a value is not a tuple of as many ratios other than 0 as size."""
    if not is_long(z, size, size) or not are_ratios(z) or ZERO in z:
        raise BadFactors("not a tuple of as many ratios other than 0 as the cone has dimensions")


def series_value(cone, z):
    """Return the value of the series of a cone at factors z."""
    check_cone(cone)
    check_factors(z, len(cone[0]))
    gaps = [minus((1, 1), value_of_power(z, vector)) for vector in cone[1]]
    if ZERO in gaps:
        raise Pole("the factors to the power of some vector are 1")
    total = sum_of_powers(z, points_of_box(cone))
    for gap in gaps:
        total = divided(total, gap)
    return total


def value_of_power(z, p):
    """Return z to the p."""
    total = (1, 1)
    for factor, n in zip(z, p):
        total = times(total, raised(factor, n))
    return total


def sum_of_powers(z, points):
    """Return the sum of z to the p over some points p."""
    lows = [min(column) for column in zip(*points)]
    highs = [max(column) for column in zip(*points)]
    # Over this common denominator all powers are integers, and no sum needs a common divisor.
    scale = (1, 1)
    tables = []
    for (top, bottom), low, high in zip(z, lows, highs):
        scale = times(scale, divided(raised((top, 1), low), raised((bottom, 1), high)))
        tables.append([whole_power(top, n - low) * whole_power(bottom, high - n) for n in range(low, high + 1)])
    total = 0
    for p in points:
        part = 1
        for table, low, n in zip(tables, lows, p):
            part *= table[n - low]
        total += part
    return times(scale, (total, 1))


def graded(cone, a, most):
    """Return the numbers of points p of a cone such that a * p is a * apex + k, for k from 0 to most."""
    check_cone(cone)
    apex, vectors, places = cone
    if not is_row(a, len(apex), len(apex), BOUND) or any(dot(a, vector) <= 0 for vector in vectors):
        raise BadGrade("not a tuple of integers whose products with the vectors are above 0")
    check_number(most, 0, MOST_GRADE)
    counts = [0] * (most + 1)
    for p in tile(vectors, places):
        if dot(a, p) <= most:
            counts[dot(a, p)] += 1
    for vector in vectors:
        step = dot(a, vector)
        for k in range(step, most + 1):
            counts[k] += counts[k - step]
    return tuple(counts)
