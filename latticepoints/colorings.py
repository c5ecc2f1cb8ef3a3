"""Colorings of graphs and their open orientations (point 33)."""
from math import perm

from latticepoints.chains import are_pairs, laid_out
from latticepoints.checks import is_between, is_long
from latticepoints.errors import BadGraph
from latticepoints.polynomials import through

MOST_MANY = 6


def check_graph(graph):
    """Raise BadGraph if a value is no graph."""
    if not is_long(graph, 2, 2) or not is_between(graph[0], 1, MOST_MANY) or not are_pairs(graph[1], graph[0]):
        raise BadGraph("not an integer from 1 to 6 and ascending pairs of integers below it")
    if any(i > j for i, j in graph[1]):
        raise BadGraph("a pair falls")


def first_colorings(graph):
    """Return the list of the colorings in which each new color is the least one that has not been taken yet."""
    many, pairs = graph
    found = [()]
    for place in range(many):
        beside = [i for i, j in pairs if j == place]
        longer = [row + (color,) for row in found for color in range(max(row, default=-1) + 2)]
        found = [row for row in longer if all(row[i] != row[place] for i in beside)]
    return found


def coloring_polynomial(graph):
    """Return the polynomial whose value at n from 0 on is the number of colorings with n colors."""
    check_graph(graph)
    taken = [max(row) + 1 for row in first_colorings(graph)]
    counts = [sum(perm(n, colors) for colors in taken) for n in range(graph[0] + 1)]
    return through(tuple((count, 1) for count in counts))


def is_open(graph, heads):
    """Tell whether no row of pairs, of the first ones that have a head, leads back to where it began."""
    many, pairs = graph
    steps = [(i + j - head, head) for (i, j), head in zip(pairs, heads)]
    return laid_out(many, steps) is not None


def open_orientations(graph):
    """Return the ascending tuple of all open orientations."""
    check_graph(graph)
    found = [()]
    for pair in graph[1]:
        longer = [heads + (head,) for heads in found for head in pair]
        found = [heads for heads in longer if is_open(graph, heads)]
    return tuple(found)
