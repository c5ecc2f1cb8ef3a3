"""Point 31: the shapes of orders."""
import itertools
import unittest

from latticepoints.errors import BadOrder, TooMany
from latticepoints.multiples import ehrhart
from latticepoints.orders import loaded_count, order_polynomial
from latticepoints.ordershapes import loaded_shape, order_shape
from latticepoints.shapes import content, points_in
from tests.drawn import NEITHER, ROUND, all_orders
from tests.test_orders import loaded, rising
from tests.wrong import expect

ORDERS = [order for many in (1, 2, 3) for order in all_orders(many)]


class OrderShapes(unittest.TestCase):
    def test_listing(self):
        self.assertEqual(len(ORDERS), 1 + 3 + 25)
        for order in ORDERS:
            self.assertEqual(order_shape(order), tuple(rising(order, 1)), order)
            self.assertEqual(loaded_shape(order), tuple(loaded(order, 1)), order)

    def test_polynomials_are_that_of_the_order(self):
        for order in ORDERS:
            poly = order_polynomial(order)
            self.assertEqual(ehrhart(order_shape(order)), poly, order)
            self.assertEqual(ehrhart(loaded_shape(order)), poly, order)
            self.assertEqual(content(order_shape(order)), content(loaded_shape(order)))

    def test_points_of_multiples_are_the_maps(self):
        for order in ORDERS:
            for n in (1, 2, 3):
                self.assertEqual(points_in(order_shape(order), n), tuple(rising(order, n)))
                self.assertEqual(points_in(loaded_shape(order), n), tuple(loaded(order, n)))
                self.assertEqual(len(points_in(loaded_shape(order), n)), loaded_count(order, n))

    def test_known(self):
        for call in (order_shape, loaded_shape):
            self.assertEqual(call((1, ())), ((0,), (1,)))
            self.assertEqual(call((3, ())), tuple(itertools.product((0, 1), repeat=3)))
        self.assertEqual(order_shape((2, ((1, 0),))), ((0, 0), (1, 0), (1, 1)))
        self.assertEqual(loaded_shape((3, ((0, 1), (0, 2)))),
                         ((0, 0, 0), (0, 0, 1), (0, 1, 0), (0, 1, 1), (1, 0, 0)))

    def test_errors(self):
        for call in (order_shape, loaded_shape):
            for value in NEITHER + ROUND:
                expect(self, BadOrder, call, value)
            for order in ((4, ()), (4, ((0, 1), (2, 3))), (5, ((4, 0),)), (6, ()), (6, tuple((k, k + 1) for k in range(5)))):
                expect(self, TooMany, call, order, most=3)
            # More than 3 elements as well, but no order.
            for value in ((4, ((0, 1), (1, 0))), (6, ((0, 6),)), (4, None), (5, [(0, 1)])):
                expect(self, BadOrder, call, value)
