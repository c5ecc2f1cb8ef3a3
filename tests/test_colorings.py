"""Point 33: colorings of graphs and open orientations."""
import itertools
import math
import unittest

from latticepoints.colorings import coloring_polynomial, open_orientations
from latticepoints.errors import BadGraph
from tests.drawn import NEITHER, all_graphs, drawn_graphs, goes_round
from tests.plain import poly_value
from tests.wrong import expect

SMALL = [graph for many in (1, 2, 3) for graph in all_graphs(many)] + drawn_graphs(331, 4, 20)
LARGE = drawn_graphs(332, 5, 10) + drawn_graphs(333, 6, 8)
FULL = (6, tuple(itertools.combinations(range(6), 2)))
CIRCLE = (6, ((0, 1), (0, 5), (1, 2), (2, 3), (3, 4), (4, 5)))


def colorings(graph, n):
    many, pairs = graph
    return [row for row in itertools.product(range(1, n + 1), repeat=many) if all(row[i] != row[j] for i, j in pairs)]


def listed_orientations(graph):
    """All open orientations, by listing all orientations."""
    many, pairs = graph
    found = []
    for heads in itertools.product(*pairs):
        steps = [(i if head == j else j, head) for (i, j), head in zip(pairs, heads)]
        if not goes_round(many, steps):
            found.append(heads)
    return found


class Colorings(unittest.TestCase):
    def test_listing(self):
        for graph in SMALL + LARGE:
            poly = coloring_polynomial(graph)
            self.assertEqual(len(poly), graph[0] + 1)
            for n in range(7 if graph[0] < 4 else 5 if graph[0] < 6 else 4):
                self.assertEqual(poly_value(poly, n), len(colorings(graph, n)), (graph, n))

    def test_known(self):
        for many in range(1, 7):
            self.assertEqual(coloring_polynomial((many, ())), ((0, 1),) * many + ((1, 1),))
        self.assertEqual([poly_value(coloring_polynomial(FULL), n) for n in range(10)], [math.perm(n, 6) for n in range(10)])
        self.assertEqual([poly_value(coloring_polynomial(CIRCLE), n) for n in range(10)], [(n - 1) ** 6 + n - 1 for n in range(10)])
        tree = (5, ((0, 1), (0, 2), (2, 3), (2, 4)))
        self.assertEqual([poly_value(coloring_polynomial(tree), n) for n in range(10)], [n * (n - 1) ** 4 for n in range(10)])

    def test_negative_numbers(self):
        for graph in SMALL + drawn_graphs(334, 5, 4):
            many, pairs = graph
            poly = coloring_polynomial(graph)
            orientations = listed_orientations(graph)
            for n in (1, 2, 3):
                wanted = 0
                for heads in orientations:
                    steps = [(i + j - head, head) for (i, j), head in zip(pairs, heads)]
                    wanted += sum(all(row[i] <= row[head] for i, head in steps)
                                  for row in itertools.product(range(n), repeat=many))
                self.assertEqual((-1) ** many * poly_value(poly, -n), wanted, (graph, n))


class Orientations(unittest.TestCase):
    def test_listing(self):
        for graph in SMALL + LARGE[:12] + [CIRCLE]:
            wanted = tuple(sorted(listed_orientations(graph)))
            self.assertEqual(open_orientations(graph), wanted, graph)
            self.assertEqual(len(wanted), abs(poly_value(coloring_polynomial(graph), -1)))

    def test_known(self):
        self.assertEqual(open_orientations((1, ())), ((),))
        self.assertEqual(open_orientations((6, ())), ((),))
        self.assertEqual(len(open_orientations(FULL)), 720)
        self.assertEqual(open_orientations(FULL), tuple(sorted(set(open_orientations(FULL)))))
        self.assertEqual(len(open_orientations(CIRCLE)), 62)
        self.assertEqual(open_orientations((3, ((0, 1), (0, 2), (1, 2)))),
                         ((0, 0, 1), (0, 0, 2), (0, 2, 2), (1, 0, 1), (1, 2, 1), (1, 2, 2)))


class Errors(unittest.TestCase):
    def test_bad_graphs(self):
        falling = ((2, ((1, 0),)), (3, ((0, 1), (2, 1))), (3, ((0, 1), (2, 0))), (6, ((5, 0),)), (2, ((0, 1), (1, 0))))
        for call in (coloring_polynomial, open_orientations):
            for value in NEITHER + falling:
                expect(self, BadGraph, call, value)

    def test_limits(self):
        for graph in ((1, ()), (6, ((0, 5),)), (6, ((4, 5),)), FULL):
            self.assertEqual(len(coloring_polynomial(graph)), graph[0] + 1)
            open_orientations(graph)
