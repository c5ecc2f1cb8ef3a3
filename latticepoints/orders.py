"""Orders, their rising maps and loaded maps (points 30 and 31)."""
from latticepoints.chains import are_pairs, laid_out
from latticepoints.checks import is_between, is_long, is_whole_row
from latticepoints.errors import BadMap, BadOrder
from latticepoints.polynomials import through
from latticepoints.shapes import check_number

MOST_MANY = 6
MOST_LOAD = 8


def check_order(order):
    """Raise BadOrder if a value is no order."""
    if not is_long(order, 2, 2) or not is_between(order[0], 1, MOST_MANY) or not are_pairs(order[1], order[0]):
        raise BadOrder("not an integer from 1 to 6 and ascending pairs of integers below it")
    if laid_out(order[0], order[1]) is None:
        raise BadOrder("the pairs lead back to where they began")


def rises(values, pairs):
    """Tell whether no pair, of those whose both places have a value, has a lesser value at its second place."""
    return all(values[i] <= values[j] for i, j in pairs if max(i, j) < len(values))


def rising_maps(order, n):
    """Return the ascending list of the rising maps to 0, .., n."""
    many, pairs = order
    maps = [()]
    for _ in range(many):
        longer = [values + (value,) for values in maps for value in range(n + 1)]
        maps = [values for values in longer if rises(values, pairs)]
    return maps


def count_walks(ways, length):
    """Return the number of walks of this length from the last place on; ways tell to which places each one leads."""
    counts = [0] * (len(ways) - 1) + [1]
    for _ in range(length):
        moved = [0] * len(ways)
        for count, places in zip(counts, ways):
            for place in places:
                moved[place] += count
        counts = moved
    return sum(counts)


def is_within(one, other):
    """Tell whether no value of a map is above that of another one."""
    return all(x <= y for x, y in zip(one, other))


def count_rising(order, n):
    """Return the number of rising maps to 0, .., n."""
    # The places k where a map is at least 1, those where it is at least 2, and so on, are rising maps to 0, 1,
    # each within the one ahead of it.
    maps = rising_maps(order, 1)
    ways = [[place for place, other in enumerate(maps) if is_within(other, one)] for one in maps]
    return count_walks(ways, n)


def order_polynomial(order):
    """Return the polynomial whose value at n from 0 on is the number of rising maps to 0, .., n."""
    check_order(order)
    return through(tuple((count_rising(order, n), 1) for n in range(order[0] + 1)))


def extensions(order):
    """Return the number of the orderings in which i comes before j for each pair."""
    check_order(order)
    # The places that are left, when one after the other is taken away from the front, are rising maps to 0, 1.
    maps = rising_maps(order, 1)
    ways = [[place for place, other in enumerate(maps) if is_within(other, one) and sum(other) == sum(one) - 1]
            for one in maps]
    return count_walks(ways, order[0])


def check_map(order, values):
    """Raise BadMap if a value is not a tuple of as many integers from 0 on as the order has elements."""
    if not is_whole_row(values, order[0]) or min(values) < 0:
        raise BadMap("not a tuple of as many integers from 0 on as the order tells")


def below(values, pairs, place):
    """Return the greatest value at the places below a place, 0 if there is none."""
    return max([values[i] for i, j in pairs if j == place], default=0)


def unloaded(order, f):
    """Return the loaded map of a rising map."""
    return tuple(value - below(f, order[1], place) for place, value in enumerate(f))


def unload(order, f):
    """Return the loaded map of a rising map."""
    check_order(order)
    check_map(order, f)
    if not rises(f, order[1]):
        raise BadMap("the tuple falls at a pair")
    return unloaded(order, f)


def load(order, g):
    """Return the rising map of a loaded map."""
    check_order(order)
    check_map(order, g)
    values = list(g)
    for place in laid_out(order[0], order[1]):
        values[place] += below(values, order[1], place)
    return tuple(values)


def loaded_count(order, n):
    """Return the number of loaded maps for n."""
    check_order(order)
    check_number(n, 0, MOST_LOAD)
    # Each is that of just one rising map to 0, .., n: R. Stanley, 1986.
    return count_rising(order, n)
