"""Which values are integers, and rows of integers, in given limits."""


def is_whole(value):
    """Tell whether a value is an integer; True and False are none."""
    return isinstance(value, int) and not isinstance(value, bool)


def is_between(value, low, high):
    """Tell whether a value is an integer from low to high."""
    return is_whole(value) and low <= value <= high


def is_long(value, shortest, longest):
    """Tell whether a value is a tuple of shortest to longest items."""
    return isinstance(value, tuple) and shortest <= len(value) <= longest


def is_row(value, shortest, longest, bound):
    """Tell whether a value is a tuple of so many integers from -bound to bound."""
    if not is_long(value, shortest, longest):
        return False
    return all(is_between(number, -bound, bound) for number in value)


def is_whole_row(value, size):
    """Tell whether a value is a tuple of so many integers, of any size."""
    return is_long(value, size, size) and all(is_whole(number) for number in value)


def are_places(value, many):
    """Tell whether a value is a tuple of integers from 0 to many - 1, each greater than the one ahead of it."""
    if not isinstance(value, tuple) or not all(is_between(place, 0, many - 1) for place in value):
        return False
    return all(one < other for one, other in zip(value, value[1:]))
