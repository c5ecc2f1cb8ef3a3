"""Cuts of polygons into triangles of the content 1 (point 17)."""
from latticepoints.boxes import bounds_of, points_within
from latticepoints.errors import TooMany
from latticepoints.forms import check_plane
from latticepoints.hulls import cut_hull, facets_of, hull_content
from latticepoints.tiles import inner_rows
from latticepoints.vectors import dot

MOST_TRIANGLES = 200


def fine_cut(shape):
    """Return triangles of the content 1, with corners with integer coordinates, into which a polygon is cut."""
    check_plane(shape)
    sides = facets_of(shape)
    volume, _ = hull_content(shape, sides)
    if volume > MOST_TRIANGLES:
        raise TooMany(MOST_TRIANGLES)
    low, high = bounds_of(shape, 1)
    points = points_within(sides, low, high)
    found = []
    for triangle in cut_hull(shape, sides):
        found.extend(cut_finer(triangle, others_in(triangle, points)))
    return tuple(sorted([tuple(sorted(triangle)) for triangle in found]))


def parts_of(triangle, p):
    """Return three integers that tell how near a point is to the corners, 0 on the line through the other two."""
    return [dot(row, (1,) + p) for row in inner_rows([(1,) + corner for corner in triangle])]


def others_in(triangle, points):
    """Return the points that lie in a triangle and are no corners of it."""
    return [p for p in points if p not in triangle and min(parts_of(triangle, p)) >= 0]


def cut_finer(triangle, points):
    """Return triangles into which a triangle with these other points is cut, so that none is left over."""
    if not points:
        return [triangle]
    # One from the middle of the row keeps the cuts of a long row of points on one edge few.
    p = points[len(points) // 2]
    found = []
    for k, part in enumerate(parts_of(triangle, p)):
        if part > 0:
            lesser = triangle[:k] + [p] + triangle[k + 1:]
            found.extend(cut_finer(lesser, others_in(lesser, points)))
    return found
