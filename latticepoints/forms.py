"""Polygons up to maps: least forms, and all reflexive polygons (points 16 and 17)."""
from latticepoints.boxes import bounds_of, points_within
from latticepoints.checks import is_long, is_whole_row
from latticepoints.errors import NotPlane
from latticepoints.hulls import corners_of_hull, facets_of, ground_of
from latticepoints.lattices import bezout
from latticepoints.shapes import check_shape
from latticepoints.vectors import combined, determinant, dot, less, opposite, primitive

# Each reflexive polygon is alike to one that lies in one of these, around the one point inside of it.
GREATEST = (((0, 0), (3, 0), (0, 3)), ((0, 0), (4, 0), (0, 2)), ((0, 0), (2, 0), (2, 2), (0, 2)))


def check_plane(shape):
    """Raise BadShape, Flat or NotPlane if a value is no shape of the dimension 2."""
    check_shape(shape)
    if len(shape[0]) != 2:
        raise NotPlane("the dimension is not 2")


def least_form(shape):
    """Return the least of the tuples that maps make of the corners of a polygon."""
    check_plane(shape)
    form, _ = least_image(shape)
    return form


def alike(one, other):
    """Return a map that takes one polygon onto the other, None if there is none."""
    check_plane(one)
    check_plane(other)
    form, way = least_image(one)
    other_form, other_way = least_image(other)
    if form != other_form:
        return None
    return ahead_of(way, other_way)


def shows_alike(one, other, value):
    """Tell whether a value is a map that takes one polygon onto the other."""
    check_plane(one)
    check_plane(other)
    if not is_map(value):
        return False
    images = [image_of(p, value) for p in corners_of_hull(one, facets_of(one))]
    return tuple(sorted(images)) == corners_of_hull(other, facets_of(other))


def is_map(value):
    """Tell whether a value is a map (rows, shift)."""
    if not is_long(value, 2, 2) or not is_long(value[0], 2, 2) or not is_whole_row(value[1], 2):
        return False
    return all(is_whole_row(row, 2) for row in value[0]) and determinant(value[0]) in (1, -1)


def image_of(p, way):
    """Return the point to which a map takes the point p."""
    rows, shift = way
    return (dot(rows[0], p) + shift[0], dot(rows[1], p) + shift[1])


def ring_of(shape):
    """Return the list of the corners of a polygon, in the order in which they stand around it."""
    sides = facets_of(shape)
    ends = corners_of_hull(shape, sides)
    following = {}
    for a, b in sides:
        along = (-a[1], a[0])
        first, last = sorted(ground_of(ends, (a, b)), key=lambda p: dot(along, p))
        following[first] = last
    ring = [ends[0]]
    while following[ring[-1]] != ring[0]:
        ring.append(following[ring[-1]])
    return ring


def map_at(here, onward, back):
    """Return the map that takes three corners to (0, 0), (k, 0) with k above 0, and (x, y) with x from 0 to y - 1."""
    along = primitive(less(onward, here))
    behind = less(back, here)
    up = (-along[1], along[0])
    if dot(up, behind) < 0:
        up = opposite(up)
    right = bezout(along[0], along[1])
    right = combined((1, -(dot(right, behind) // dot(up, behind))), (right, up))
    return ((right, up), (-dot(right, here), -dot(up, here)))


def least_image(shape):
    """Return (form, way): the least form of a polygon, and a map that makes it."""
    ring = ring_of(shape)
    found = []
    for corners in (ring, ring[::-1]):
        for k in range(len(corners)):
            turned = corners[k:] + corners[:k]
            way = map_at(turned[0], turned[1], turned[-1])
            found.append((tuple(image_of(p, way) for p in turned), way))
    return min(found)


def ahead_of(way, other):
    """Return the map that makes of each point what other makes of its image."""
    rows, shift = way
    (p, q), (r, s) = other[0]
    # The sign is the determinant, so these rows are the inverse.
    sign = p * s - q * r
    inverse = ((sign * s, -sign * q), (-sign * r, sign * p))
    lag = less(shift, other[1])
    return (tuple(combined(row, rows) for row in inverse), tuple(dot(row, lag) for row in inverse))


def all_reflexive():
    """Return the ascending tuple of the least forms of all reflexive polygons."""
    waiting = list(GREATEST)
    found = {}
    while waiting:
        form, _ = least_image(waiting.pop())
        if form not in found:
            found[form] = True
            waiting.extend(lesser_polygons(form))
    return tuple(sorted(found))


def lesser_polygons(shape):
    """Return, for each corner, the points of the hull but this corner, if one of them lies inside of their hull."""
    low, high = bounds_of(shape, 1)
    points = points_within(facets_of(shape), low, high)
    rests = [tuple(p for p in points if p != end) for end in shape]
    return [rest for rest in rests if has_inner(rest)]


def has_inner(points):
    """Tell whether one of the points lies inside of their hull."""
    sides = facets_of(points)
    return any(all(dot(a, p) < b for a, b in sides) for p in points)
