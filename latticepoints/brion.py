"""Cones at the corners of shapes, their parts of determinant 1 or -1, and counts (points 20 and 21)."""
from latticepoints.cones import check_cone
from latticepoints.hulls import corners_of_hull, facets_of, on_facets
from latticepoints.shapes import check_number, check_shape
from latticepoints.sums import sum_in_multiple
from latticepoints.tiles import inner_rows, open_places, point_of_shares, shares_in_tile
from latticepoints.vectors import dot, less, opposite, primitive

MOST_MULTIPLE = 1000000000


def corner_cones(shape):
    """Return cones such that each point of the corner cone of each corner is in exactly one of them."""
    check_shape(shape)
    sides = facets_of(shape)
    ends = corners_of_hull(shape, sides)
    found = []
    for end in ends:
        found.extend(cones_at(end, ends, sides))
    return tuple(found)


def cones_at(end, ends, sides):
    """Return the cones whose apex is one of the corners."""
    mine = on_facets(sides, end)
    # A segment between two corners is an edge if it lies on d - 1 facets.
    beside = [q for q in ends if q != end and len(on_facets(mine, q)) >= len(end) - 1]
    lights = [primitive(less(q, end)) for q in beside]
    cones = []
    for a, b in mine:
        # The first edge, and those on a facet without it, make one cone.
        if dot(a, beside[0]) != b:
            vectors = [lights[0]] + [light for light in lights if dot(a, light) == 0]
            cones.append((end, tuple(vectors), open_places(vectors, lights)))
    return cones


def unimodular_parts(cone):
    """Return cones of determinant 1 or -1 such that each point of a cone is in exactly one of them."""
    check_cone(cone)
    apex, vectors, places = cone
    # Light from behind a side leaves it open.
    lights = [opposite(vector) if k in places else vector for k, vector in enumerate(vectors)]
    waiting = [list(vectors)]
    found = []
    while waiting:
        part = waiting.pop()
        rows = inner_rows(part)
        whole = dot(rows[0], part[0])
        if whole == 1:
            found.append((apex, tuple(part), open_places(part, lights)))
        else:
            waiting.extend(cut_in_tile(part, whole))
    return tuple(found)


def cut_in_tile(vectors, whole):
    """Return cones of lesser determinants that make up the cone of the vectors and share no inner points."""
    inside = [row for row in shares_in_tile(vectors, ()) if any(row)]
    # The determinants of the new cones are the shares: few cones follow if these are small.
    shares = min(inside, key=lambda row: (sum(row), max(row)))
    p = point_of_shares(shares, vectors, whole)
    return [vectors[:k] + [p] + vectors[k + 1:] for k in range(len(vectors)) if shares[k] > 0]


def count_by_cones(shape, n):
    """Return the number of points with integer coordinates in the multiple n of a shape."""
    check_shape(shape)
    check_number(n, 0, MOST_MULTIPLE)
    return sum_in_multiple(shape, (0,) * len(shape[0]), 0, n)
