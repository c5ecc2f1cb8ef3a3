"""Papers that show what is the greatest product of a pair with a point of a plane set, or that there is no point.

A frame is a pair (a, o) of pairs with the determinant 1. The lines a * x = 0, 1, .. hold all points, and o * x tells
where on its line a point stands.
"""
from itertools import combinations

from latticepoints.plane import outward, turn
from latticepoints.ratios import ratio
from latticepoints.stepping import partner
from latticepoints.vectors import dot, opposite


def best_bound(halves, goal):
    """Return parts for a line that tells the greatest goal * x of all x, of any coordinates, that fulfil halves."""
    indexes = list(range(len(halves)))
    found = []
    for i, j in combinations(indexes, 2):
        (one, b), (other, c) = halves[i], halves[j]
        whole = turn(one, other)
        shares = (turn(goal, other), turn(one, goal))
        if whole < 0:
            whole, shares = -whole, opposite(shares)
        if whole > 0 and min(shares) >= 0:
            # The goal is the sum of both tuples times their shares over the whole.
            parts = ((i, ratio(shares[0], whole)), (j, ratio(shares[1], whole)))
            found.append((dot(shares, (b, c)), whole, parts))
    _, _, parts = least_of(found)
    return parts


def least_of(found):
    """Return that tuple (top, bottom, ..), bottom above 0, for which top over bottom is least."""
    best = found[0]
    for item in found[1:]:
        if item[0] * best[1] < best[0] * item[1]:
            best = item
    return best


def end_of_line(halves, frame, level, way):
    """Return (index, p, q) for the half that ends the line a * x = level on one side.

    That is the side of great o * x if way is 1, of small ones if it is -1. The tuple of the half is p times a and
    way * q times o, q above 0.
    """
    a, o = frame
    found = []
    for index, (side, b) in enumerate(halves):
        p, q = turn(side, o), way * turn(a, side)
        if q > 0:
            found.append((b - p * level, q, index, p))
    _, q, index, p = least_of(found)
    return index, p, q


def tell_end(paper, at_most, end, times):
    """Tell the whole end of a line a * x = level; return the index.

    The pair with the index at_most is (a, level), the end is that of end_of_line, and times is an integer that is
    at least p over q. The tuple told is way * o and times * a.
    """
    index, p, q = end
    return paper.tell(((index, (1, q)), (at_most, ratio(times * q - p, q))))


def hold(paper, halves, frame, level):
    """Tell that a * x is at most the level, on all lines above which there is no point; return the index."""
    at_most = paper.tell(best_bound(halves, frame[0]))
    # Beyond an edge of the hull the set lies between two lines across it, and as the numbers of the halves are at
    # most 50 it ends within 26 levels; along a thin frame there are only few. So far fewer than 300 lines are told.
    while paper.known[at_most][1] > level:
        at_most = lowered(paper, halves, frame, at_most)
    return at_most


def lowered(paper, halves, frame, at_most):
    """Tell that a * x is at most less than the level of the pair (a, level) with this index; return the index.

    There is no point on the line a * x = level: the first point behind its one end is behind the other end.
    """
    _, level = paper.known[at_most]
    first = end_of_line(halves, frame, level, -1)
    index, p, q = end_of_line(halves, frame, level, 1)
    # So many times leave a positive multiple of a if the end is put together with the other half.
    times = max(-(-first[1] // first[2]), -p // q + 1)
    end = tell_end(paper, at_most, first, times)
    whole = q * times + p
    return paper.tell(((index, (1, whole)), (end, ratio(q, whole))))


def tell_clash(paper, indexes):
    """Tell, if three of these pairs have nothing in common, that 0 is at most an integer below 0."""
    for group in combinations(indexes, 3):
        (one, b), (other, c), (third, d) = [paper.known[index] for index in group]
        shares = (turn(other, third), turn(third, one), turn(one, other))
        if max(shares) <= 0:
            shares = opposite(shares)
        if min(shares) >= 0 and dot(shares, (b, c, d)) < 0:
            paper.tell([(index, (share, 1)) for index, share in zip(group, shares)])
            return


def prove_corner(paper, halves, ring, here, goal):
    """Tell the greatest goal * p of all points, which is that of a corner of their hull, a ring of three or more."""
    place = ring.index(here)
    one = outward(ring[place - 1], here)
    other = outward(here, ring[(place + 1) % len(ring)])
    # The goal is the sum of the tuples of both edges times these shares over the whole.
    whole = turn(one, other)
    parts = []
    for a, share in ((one, turn(goal, other)), (other, turn(one, goal))):
        if share > 0:
            at_most = hold(paper, halves, (a, partner(a)), dot(a, here))
            parts.append((at_most, ratio(share, whole)))
    paper.tell(parts)


def frame_of_line(ring, frame):
    """Return a frame that has all points of a ring of one or two on one of its lines."""
    if len(ring) == 1:
        return frame
    a = outward(ring[0], ring[1])
    return a, partner(a)


def prove_on_line(paper, halves, frame, here, goal):
    """Tell the greatest goal * p of all points, which is that of this one; all are on one line of the frame."""
    a, o = frame
    if turn(a, goal) < 0:
        a, o = opposite(a), opposite(o)
    level = dot(a, here)
    at_most = hold(paper, halves, (a, o), level)
    at_least = hold(paper, halves, (opposite(a), opposite(o)), -level)
    end = end_of_line(halves, (a, o), level, 1)
    times = -(-end[1] // end[2])
    beyond = tell_end(paper, at_most, end, times)
    # The goal is along * (o + times * a) and some more of a, or less of it.
    along = turn(a, goal)
    rest = turn(goal, o) - along * times
    paper.tell(((beyond, (along, 1)), (at_most if rest > 0 else at_least, (abs(rest), 1))))


def prove_none(paper, halves, frame, places, scale):
    """Tell that 0 is at most an integer below 0, as there are no points; the corners are the places over the scale."""
    indexes = list(range(len(halves)))
    if places:
        least = -(-min(dot(frame[0], place) for place in places) // scale)
        indexes.append(hold(paper, halves, frame, least - 1))
    tell_clash(paper, indexes)
