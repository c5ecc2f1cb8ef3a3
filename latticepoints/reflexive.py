"""Reflexive shapes, their polars, and centers (point 15)."""
from itertools import combinations

from latticepoints.errors import NotReflexive, TooMany
from latticepoints.halves import meeting_point
from latticepoints.hulls import facets_of
from latticepoints.shapes import check_shape
from latticepoints.vectors import dot

MOST_POINTS = 12


def are_at_one(sides):
    """Tell whether b is 1 for each facet (a, b)."""
    # Then (0, .., 0) lies inside.
    return all(b == 1 for _, b in sides)


def is_reflexive(shape):
    """Tell whether a shape is reflexive."""
    check_shape(shape)
    return are_at_one(facets_of(shape))


def polar(shape):
    """Return the ascending tuple of the tuples a of the facets of a reflexive shape."""
    check_shape(shape)
    sides = facets_of(shape)
    if not are_at_one(sides):
        raise NotReflexive("not a reflexive shape")
    if len(sides) > MOST_POINTS:
        raise TooMany(MOST_POINTS)
    return tuple(a for a, _ in sides)


def center_of(shape):
    """Return the point p such that the points less p make a reflexive shape, None if there is none."""
    check_shape(shape)
    # At the center each facet has the distance 1.
    goals = [(a, b - 1) for a, b in facets_of(shape)]
    meetings = [meeting_point(group) for group in combinations(goals, len(shape[0]))]
    p, bottom = [meeting for meeting in meetings if meeting is not None][0]
    if bottom != 1 or any(dot(a, p) != b for a, b in goals):
        return None
    return p
