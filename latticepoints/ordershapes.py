"""Shapes of orders (point 31)."""
from latticepoints.errors import TooMany
from latticepoints.orders import check_order, rising_maps, unloaded

MOST_SIZE = 3


def small_maps(order):
    """Return the ascending list of the rising maps to 0, 1 of an order of at most 3 elements; or an error."""
    check_order(order)
    if order[0] > MOST_SIZE:
        raise TooMany(MOST_SIZE)
    return rising_maps(order, 1)


def order_shape(order):
    """Return the ascending tuple of the rising maps to 0, 1."""
    return tuple(small_maps(order))


def loaded_shape(order):
    """Return the ascending tuple of the loaded maps for 1."""
    return tuple(sorted([unloaded(order, f) for f in small_maps(order)]))
