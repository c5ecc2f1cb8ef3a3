"""Sums of powers over all points of the multiples of a shape (point 21)."""
from math import comb

from latticepoints.boxes import bounds_of, longest_spans
from latticepoints.hulls import facets_of
from latticepoints.polynomials import evaluated, interpolated
from latticepoints.ratios import whole_power
from latticepoints.shapes import lifted
from latticepoints.vectors import dot


def sum_in_multiple(shape, a, power, n):
    """Return the sum of (a * p) to the power, from 0 to 4, over the points p of the multiple n, n from 0 on."""
    many = len(shape[0]) + power + 1
    nodes = [(k + 1) // 2 if k % 2 == 1 else -(k // 2) for k in range(many)]
    sides = facets_of(shape)
    # The sum is a polynomial in n of a degree below many.
    values = [(sum_at(shape, sides, a, power, node), 1) for node in nodes]
    total, _ = evaluated(interpolated(nodes, values), n)
    return total


def sum_at(shape, sides, a, power, node):
    """Return the value of the polynomial of the sums at an integer."""
    if node == 0:
        return whole_power(0, power)
    low, high = bounds_of(shape, abs(node))
    if node > 0:
        return sum_within(lifted(sides, node, 0), low, high, a, power)
    # At -n it is, up to the sign, the sum over the inner points: E. Ehrhart, I. Macdonald.
    inner = sum_within(lifted(sides, -node, 1), low, high, a, power)
    return inner if (len(a) + power) % 2 == 0 else -inner


def sum_within(pairs, low, high, a, power):
    """Return the sum of (a * p) to the power over the points p of a box that fulfil all pairs."""
    places, spans = longest_spans(pairs, low, high)
    weights = [a[k] for k in places]
    factors = [comb(power, k) * whole_power(weights[-1], k) for k in range(power + 1)]
    total = 0
    for start, first, last in spans:
        # zip leaves out the last weight, for which the start has no partner.
        total += sum_on_line(dot(start, weights), factors, first, last)
    return total


def sum_on_line(base, factors, first, last):
    """Return the sum, for k from first to last, of the power of base + weight * k that the factors tell."""
    total = 0
    # Each round raises what stands ahead by one more base.
    for factor, upper, lower in zip(factors, power_totals(last), power_totals(first - 1)):
        total = total * base + factor * (upper - lower)
    return total


def power_totals(n):
    """Return the polynomials in n whose steps from n - 1 to n are 1, n, and its second to fourth power."""
    pairs = n * (n + 1) // 2
    triples = pairs * (2 * n + 1)
    return (n, pairs, triples // 3, pairs * pairs, triples * (3 * n * n + 3 * n - 1) // 15)
