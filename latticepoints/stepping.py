"""The steps of a fraction, n / m is a1 less 1 over (a2 less 1 over (.. ak)), and the points that they lead along."""
from latticepoints.errors import TooMany
from latticepoints.lattices import bezout
from latticepoints.plane import turn
from latticepoints.vectors import combined, opposite

MOST_STEPS = 2000


def steps_of(n, m):
    """Return the list of the steps of n / m, n above m, m from 1 on, without a common divisor; or TooMany."""
    found = []
    while m > 0:
        if len(found) == MOST_STEPS:
            raise TooMany(MOST_STEPS)
        step = -(-n // m)
        n, m = m, step * m - n
        found.append(step)
    return found


def partner(one):
    """Return a pair with which a pair without a common divisor has the determinant 1."""
    x, y = bezout(one[0], one[1])
    return (-y, x)


def sums_between(one, other):
    """Return (points, steps) for two pairs without a common divisor, whose determinant is not 0; or TooMany.

    The points are those of the cone of both pairs that are not sums of others, from one to other. The steps
    tell, for each point between them, how many times the sum of its neighbours is this point.
    """
    whole = turn(one, other)
    side = partner(one)
    near = turn(other, side)
    if whole < 0:
        whole, side = -whole, opposite(side)
    # The pair other is near * one + whole * side. The point next to one is the side and some times one, so that
    # whole times this point is the pair other and short * one.
    short = -near % whole
    points = [one, combined(((near + short) // whole, 1), (one, side))]
    steps = steps_of(whole, short)
    for step in steps:
        points.append(combined((-1, step), points[-2:]))
    return points, steps
