"""Rounds over plane sets: what is left of a set when all its bounds are cut to integers (point 29).

A ring is the list of the corners of a set, to the left around it. A corner (x, y, w) stands for the point
(x / w, y / w), w above 0, and its three numbers have no common divisor.
"""
from latticepoints.plane import outward
from latticepoints.stepping import sums_between
from latticepoints.vectors import combined, dot, primitive


def side_between(here, onward):
    """Return the facet's tuple a for the edge between two corners."""
    return outward((here[0] * onward[2], here[1] * onward[2]), (onward[0] * here[2], onward[1] * here[2]))


def clipped(ring, a, b):
    """Return the ring of the part of a set in which a * x is at most b."""
    heights = [dot((a[0], a[1], -b), point) for point in ring]
    kept = []
    for k, corner in enumerate(ring):
        if heights[k - 1] * heights[k] < 0:
            kept.append(primitive(combined((abs(heights[k]), abs(heights[k - 1])), (ring[k - 1], corner))))
        if heights[k] <= 0:
            kept.append(corner)
    # A set without inner points is met twice on the way around.
    return [point for place, point in enumerate(kept) if point not in kept[:place]]


def after_round(ring):
    """Return the ring of what a round leaves of a set with three corners or more."""
    rest = ring
    for k, corner in enumerate(ring):
        behind = side_between(ring[k - 1], corner)
        ahead = side_between(corner, ring[(k + 1) % len(ring)])
        # Of the tuples that are greatest at this corner all others are sums of these, and tell nothing more.
        fan, _ = sums_between(behind, ahead)
        for a in fan:
            most = dot(a, corner)
            if most % corner[2] != 0:
                rest = clipped(rest, a, most // corner[2])
    return rest


def count_rounds(ring):
    """Return the number of rounds after which a set is the hull of its points with integer coordinates."""
    count = 0
    while any(corner[2] > 1 for corner in ring):
        count += 1
        if len(ring) < 3:
            # On a line, a round cuts both ends to points, or leaves nothing.
            return count
        ring = after_round(ring)
    return count
