"""The steps of a fraction: n / m is a1 less 1 over (a2 less 1 over (.. ak))."""
from latticepoints.errors import TooMany

MOST_STEPS = 2000


def steps_of(n, m):
    """Return the list of the steps of n / m, n above m, m from 1 on, without a common divisor; or TooMany."""
    found = []
    while m > 0:
        if len(found) == MOST_STEPS:
            raise TooMany(MOST_STEPS)
        step = -(-n // m)
        n, m = m, step * m - n
        found.append(step)
    return found
