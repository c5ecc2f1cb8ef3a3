"""The greatest integer that three coins cannot pay (point 23)."""
from math import gcd

from latticepoints.checks import is_between
from latticepoints.errors import BadPair
from latticepoints.lattices import bezout
from latticepoints.stepping import steps_of

MOST_COIN = 1000000000


def greatest_unpaid(a, b, c):
    """Return the greatest integer that three coins, each two without a common divisor, cannot pay."""
    for coin in (a, b, c):
        if not is_between(coin, 2, MOST_COIN):
            raise BadPair("not an integer from 2 to 10 ** 9")
    if gcd(a, b) != 1 or gcd(a, c) != 1 or gcd(b, c) != 1:
        raise BadPair("two coins have a common divisor")
    inverse, _ = bezout(b, a)
    many, fewer, others, more = turning_point(a, inverse * c % a, b, c)
    return b * many + c * more - min(b * fewer, c * others) - a - b - c


def turning_point(a, rest, b, c):
    """Return s, t, p, q for two neighbours (s, p), (t, q) with s * b above p * c, and t * b at most q * c.

    All (s, p) make s * b - p * c a multiple of a. With s falling from a to 0, and p rising from 0 to a, they are
    the corners between which all rests modulo a are paid by fewest coins b and c: O. Roedseth, 1978.
    """
    s, t = a, rest
    p, q = 0, 1
    for step in steps_of(a, rest):
        if t * b <= q * c:
            break
        s, t = t, step * t - s
        p, q = q, step * q - p
    return s, t, p, q
