"""Which values are integers, and rows of integers, in given limits."""


def is_whole(value):
    """Tell whether a value is an integer; True and False are none."""
    return isinstance(value, int) and not isinstance(value, bool)


def is_between(value, low, high):
    """Tell whether a value is an integer from low to high."""
    return is_whole(value) and low <= value <= high


def is_long(value, shortest, longest):
    """Tell whether a value is a tuple of shortest to longest items."""
    return isinstance(value, tuple) and shortest <= len(value) <= longest


def is_row(value, shortest, longest, bound):
    """Tell whether a value is a tuple of so many integers from -bound to bound."""
    if not is_long(value, shortest, longest):
        return False
    return all(is_between(number, -bound, bound) for number in value)
