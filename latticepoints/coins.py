"""Ways to pay with coins, and what cannot be paid (points 22 and 23)."""
from math import gcd, lcm

from latticepoints.checks import is_between, is_long
from latticepoints.errors import BadCoins, TooMany
from latticepoints.lattices import bezout
from latticepoints.polynomials import least_quasi, quasi_through
from latticepoints.shapes import check_number
from latticepoints.vectors import divisor_of

MOST_COINS = 5
MOST_COIN = 60
MOST_PAID = 5000
MOST_PERIOD = 60
MOST_GREAT_COIN = 1000000000
MOST_GREAT_PAID = 1000000000000000000


def check_coins(coins):
    """Raise BadCoins if a value is no coins."""
    if not is_long(coins, 1, MOST_COINS) or not all(is_between(coin, 1, MOST_COIN) for coin in coins):
        raise BadCoins("not a tuple of 1 to 5 integers from 1 to 60")


def check_single_coins(coins):
    """Raise BadCoins if a value is no coins, or coins with a common divisor."""
    check_coins(coins)
    if divisor_of(coins) != 1:
        raise BadCoins("the coins have a common divisor")


def all_ways(coins, most):
    """Return the list of the numbers of ways to pay 0 to most."""
    counts = [1] + [0] * most
    for coin in coins:
        for n in range(coin, most + 1):
            counts[n] += counts[n - coin]
    return counts


def ways(coins, n):
    """Return the number of ways to pay n."""
    check_coins(coins)
    check_number(n, 0, MOST_PAID)
    return all_ways(coins, n)[n]


def ways_with_all(coins, n):
    """Return the number of ways to pay n with at least one of each coin."""
    check_coins(coins)
    check_number(n, 0, MOST_PAID)
    rest = n - sum(coins)
    return all_ways(coins, rest)[rest] if rest >= 0 else 0


def pay_quasi(coins):
    """Return the quasi-polynomial, with the least number of items, that tells the ways to pay each n from 0 on."""
    check_coins(coins)
    period = 1
    for coin in coins:
        period = lcm(period, coin)
    if period > MOST_PERIOD:
        raise TooMany(MOST_PERIOD)
    # Each item has a degree below the number of coins.
    counts = all_ways(coins, period * len(coins) - 1)
    return least_quasi(quasi_through(period, tuple((count, 1) for count in counts)))


def least_by_rest(coins):
    """Return, for each rest modulo the least coin, the least integer from 0 on that has a way."""
    check_single_coins(coins)
    least = min(coins)
    # Steps of another coin lead from rest to rest, and no rest need be met twice.
    counts = all_ways(coins, least * max(coins))
    return tuple(min(n for n in range(rest, len(counts), least) if counts[n] > 0) for rest in range(least))


def unpaid(coins):
    """Return the ascending tuple of the integers from 1 on that have no way."""
    found = []
    for rest, first in enumerate(least_by_rest(coins)):
        found.extend(list(range(rest, first, min(coins))))
    return tuple(sorted(found))


def two_ways(a, b, n):
    """Return the number of ways to pay n with two coins without a common divisor."""
    for coin in (a, b):
        if not is_between(coin, 1, MOST_GREAT_COIN):
            raise BadCoins("not an integer from 1 to 10 ** 9")
    if gcd(a, b) != 1:
        raise BadCoins("the coins have a common divisor")
    check_number(n, 0, MOST_GREAT_PAID)
    inverse, _ = bezout(a, b)
    # The numbers of coins a that leave a multiple of b have one rest modulo b.
    fewest = inverse * n % b
    return (n - a * fewest) // (a * b) + 1
