"""Pairs (i, j) of the integers from 0 to many - 1, as orders and graphs have them."""
from latticepoints.checks import is_between, is_long


def are_pairs(value, many):
    """Tell whether a value is a strictly ascending tuple of pairs of different integers from 0 to many - 1."""
    if not isinstance(value, tuple) or not all(is_pair(pair, many) for pair in value):
        return False
    return all(one < other for one, other in zip(value, value[1:]))


def is_pair(value, many):
    """Tell whether a value is a pair of different integers from 0 to many - 1."""
    if not is_long(value, 2, 2) or not all(is_between(number, 0, many - 1) for number in value):
        return False
    return value[0] != value[1]


def laid_out(many, pairs):
    """Return the list of the integers in an order in which i comes ahead of j for each pair; None if there is none."""
    row = []
    waiting = list(range(many))
    while waiting:
        held = [j for i, j in pairs if i in waiting]
        free = [k for k in waiting if k not in held]
        if not free:
            return None
        row.extend(free)
        waiting = [k for k in waiting if k in held]
    return row
