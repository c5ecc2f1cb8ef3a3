"""The hull of points that span: its facets, corners, edges, and the cutting of its facets into simplices."""
from itertools import combinations

from latticepoints.vectors import across, divisor_of, dot, less, opposite, primitive


def ways_from_first(points):
    """Return the ways from the first of some points to the others."""
    return [less(point, points[0]) for point in points[1:]]


def facets_of(points):
    """Return the ascending tuple of the facets (a, b) of the hull of points that span."""
    rows = list(points)
    found = {}
    for group in combinations(rows, len(points[0])):
        normal = across(ways_from_first(group), len(group))
        if divisor_of(normal) == 0:
            continue
        out = primitive(normal)
        for side in (out, opposite(out)):
            bound = dot(side, group[0])
            if max(dot(side, point) for point in points) == bound:
                found[(side, bound)] = True
    return tuple(sorted(found))


def on_facets(sides, point):
    """Return the facets on which a point lies."""
    return [(a, b) for a, b in sides if dot(a, point) == b]


def corners_of_hull(points, sides):
    """Return the ascending tuple of the points that do not lie in the hull of the others."""
    grounds = {point: on_facets(sides, point) for point in points}
    # The facets at a point that is no corner are also at each corner of the least face that holds it.
    return tuple(sorted([point for point in points if is_alone(point, grounds)]))


def is_alone(point, grounds):
    """Tell whether no other point lies on all the facets on which this point lies."""
    mine = grounds[point]
    for other in grounds:
        if other != point and all(side in grounds[other] for side in mine):
            return False
    return True


def ground_of(corners, side):
    """Return the corners on a facet."""
    a, b = side
    return [point for point in corners if dot(a, point) == b]


def edges_of(corners, sides):
    """Return the edges of a solid, pairs of corners; for a segment or a polygon there are none."""
    grounds = [ground_of(corners, side) for side in sides]
    shared = [[point for point in one if point in other] for one, other in combinations(grounds, 2)]
    # Two facets share no point, a corner, or, of a solid only, an edge.
    return [tuple(common) for common in shared if len(common) == 2]


def cut_facet(ground, edges):
    """Return simplices, lists of d corners, into which the facet with these corners is cut."""
    if len(ground[0]) < 3:
        return [ground]
    rim = [edge for edge in edges if edge[0] in ground and edge[1] in ground]
    return [[ground[0], one, other] for one, other in rim if ground[0] not in (one, other)]


def facet_content(ground, edges):
    """Return the content that a facet with these corners has in its own lattice."""
    size = len(ground[0])
    return sum(divisor_of(across(ways_from_first(simplex), size)) for simplex in cut_facet(ground, edges))


def cut_hull(points, sides):
    """Return simplices, lists of d + 1 corners, into which the hull is cut."""
    corners = corners_of_hull(points, sides)
    edges = edges_of(corners, sides)
    top = corners[0]
    found = []
    for a, b in sides:
        if dot(a, top) != b:
            parts = cut_facet(ground_of(corners, (a, b)), edges)
            found.extend([[top] + part for part in parts])
    return found


def hull_content(points, sides):
    """Return the volume of the hull times d!, and the sum of the contents of its facets."""
    corners = corners_of_hull(points, sides)
    edges = edges_of(corners, sides)
    volume = 0
    border = 0
    for a, b in sides:
        part = facet_content(ground_of(corners, (a, b)), edges)
        border += part
        # The first corner and a facet make a pyramid whose height is told in steps of the lattice.
        volume += part * (b - dot(a, corners[0]))
    return volume, border
