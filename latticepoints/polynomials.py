"""Polynomials and quasi-polynomials over ratios (points 2 and 3)."""
from latticepoints.checks import is_between, is_long, is_whole
from latticepoints.errors import BadNumber, BadPolynomial, BadQuasi, BadValues
from latticepoints.ratios import ZERO, are_ratios, minus, over, plus, times

MOST_VALUES = 12
MOST_ITEMS = 60


def is_polynomial(value):
    """Tell whether a value is a polynomial."""
    return are_ratios(value) and (value == () or value[-1] != ZERO)


def check_polynomial(value):
    """Raise BadPolynomial if a value is no polynomial."""
    if not is_polynomial(value):
        raise BadPolynomial("not a polynomial")


def check_whole(value):
    """Raise BadNumber if a value is no integer."""
    if not is_whole(value):
        raise BadNumber("not an integer")


def check_quasi(value):
    """Raise BadQuasi if a value is no quasi-polynomial."""
    if not is_long(value, 1, MOST_ITEMS) or not all(is_polynomial(item) for item in value):
        raise BadQuasi("not a quasi-polynomial")


def value_at(poly, n):
    """Return the value of a polynomial at an integer, a ratio."""
    check_polynomial(poly)
    check_whole(n)
    return evaluated(poly, n)


def poly_sum(one, other):
    """Return the sum of two polynomials."""
    check_polynomial(one)
    check_polynomial(other)
    return added(one, other)


def poly_product(one, other):
    """Return the product of two polynomials."""
    check_polynomial(one)
    check_polynomial(other)
    return multiplied(one, other)


def through(values):
    """Return the polynomial of the least degree with the value values[k] at each index k."""
    if not are_ratios(values) or not is_long(values, 1, MOST_VALUES):
        raise BadValues("not a tuple of 1 to 12 ratios")
    return interpolated(list(range(len(values))), values)


def quasi_value(quasi, n):
    """Return the value of a quasi-polynomial at an integer, a ratio."""
    check_quasi(quasi)
    check_whole(n)
    return evaluated(quasi[n % len(quasi)], n)


def quasi_through(period, values):
    """Return the quasi-polynomial with period items, each of the least degree, with these values."""
    if not is_between(period, 1, MOST_ITEMS):
        raise BadNumber("not a period from 1 to 60")
    if not are_ratios(values) or not is_long(values, period, MOST_VALUES * period) or len(values) % period:
        raise BadValues("not a tuple of 1 to 12 ratios for each item")
    items = []
    for rest in range(period):
        nodes = list(range(rest, len(values), period))
        items.append(interpolated(nodes, values[rest::period]))
    return tuple(items)


def least_quasi(quasi):
    """Return the quasi-polynomial of the least number of items that has the same values."""
    check_quasi(quasi)
    many = len(quasi)
    # The least number divides any other: two items that share integers without end are equal.
    sizes = [size for size in range(1, many + 1) if many % size == 0 and quasi[:size] * (many // size) == quasi]
    return quasi[:min(sizes)]


def trimmed(numbers):
    """Return the polynomial with these numbers, without those of 0 at its end."""
    size = len(numbers)
    while size > 0 and numbers[size - 1] == ZERO:
        size -= 1
    return tuple(numbers[:size])


def evaluated(poly, n):
    """Return the value of a polynomial at n."""
    total = ZERO
    for number in reversed(poly):
        total = plus(times(total, (n, 1)), number)
    return total


def added(one, other):
    """Return the sum of two polynomials."""
    short, long = sorted((one, other), key=len)
    sums = [plus(x, y) for x, y in zip(short, long)]
    return trimmed(sums + list(long[len(short):]))


def multiplied(one, other):
    """Return the product of two polynomials."""
    sums = [ZERO] * (len(one) + len(other))
    for place, x in enumerate(one):
        for further, y in enumerate(other):
            sums[place + further] = plus(sums[place + further], times(x, y))
    return trimmed(sums)


def interpolated(nodes, values):
    """Return the polynomial of the least degree with these values at these different integers."""
    slopes = list(values)
    for gap in range(1, len(nodes)):
        for place in range(len(nodes) - 1, gap - 1, -1):
            rise = minus(slopes[place], slopes[place - 1])
            slopes[place] = over(rise, nodes[place] - nodes[place - gap])
    poly = ()
    for node, slope in reversed(list(zip(nodes, slopes))):
        poly = added(multiplied(poly, ((-node, 1), (1, 1))), trimmed([slope]))
    return poly
