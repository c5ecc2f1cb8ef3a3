"""Points 2 and 3: polynomials and quasi-polynomials."""
import random
import unittest

from latticepoints.errors import BadNumber, BadPolynomial, BadQuasi, BadValues
from latticepoints.polynomials import (least_quasi, poly_product, poly_sum, quasi_through, quasi_value, through,
                                       value_at)
from tests.plain import as_ratio, lagrange, poly_value, quasi_value_of
from tests.wrong import KINDS, NUMBERS, expect

HUGE = 10 ** 40
LINE = ((1, 2), (1, 2))
WRONG_POLYNOMIALS = tuple(kind for kind in KINDS if kind != ()) + NUMBERS + (
    ((0, 1),), ((1, 1), (0, 1)), ((2, 2),), ((1, 0),), ((1, -1),), ((0, 2),), ((0, 0),), ((1,),), ((1, 1, 1),),
    (1, 1), ((True, 1),), ((1, True),), ([1, 1],), [(1, 1)], ((1, 1), None), ((1, 1), (2, 4)), ((2, 4), (1, 1)),
    ((1, 1), "ab"), ("12",), ((1, "1"),), (((1, 1), (1, 1)),), ((None, 1),), ((1, {}),))
WRONG_INTEGERS = tuple(KINDS) + (((1, 1),), (1, 1), ((0, 1), (1, 1)))


def random_poly(chance, most, bound):
    numbers = [as_ratio(0)] * chance.randint(0, most)
    for k in range(len(numbers)):
        top, bottom = chance.randint(-bound, bound), chance.randint(1, bound)
        numbers[k] = as_ratio(poly_value(((top, 1),), 0) / bottom)
    while numbers and numbers[-1] == (0, 1):
        numbers.pop()
    return tuple(numbers)


class Polynomials(unittest.TestCase):
    def setUp(self):
        chance = random.Random(1)
        self.polys = [(), ((3, 1),), ((0, 1), (1, 1)), ((0, 1), (0, 1), (-5, 7))]
        self.polys += [random_poly(chance, 7, bound) for bound in (2, 9, HUGE) for _ in range(5)]

    def test_value_at(self):
        for poly in self.polys:
            for n in (0, 1, -1, 2, 17, -6, HUGE, -HUGE):
                self.assertEqual(value_at(poly, n), as_ratio(poly_value(poly, n)))

    def test_value_of_nothing(self):
        self.assertEqual(value_at((), -7), (0, 1))
        self.assertEqual(value_at(((0, 1), (1, 6)), -3), (-1, 2))

    def test_sum_and_product(self):
        for one in self.polys:
            for other in self.polys:
                total, whole = poly_sum(one, other), poly_product(one, other)
                self.assertEqual(len(whole), len(one) + len(other) - 1 if one and other else 0)
                for n in (0, 1, -1, 2, 5, -9, HUGE):
                    self.assertEqual(value_at(total, n), as_ratio(poly_value(one, n) + poly_value(other, n)))
                    self.assertEqual(value_at(whole, n), as_ratio(poly_value(one, n) * poly_value(other, n)))

    def test_sum_that_falls(self):
        self.assertEqual(poly_sum(((1, 1), (1, 3)), ((0, 1), (-1, 3))), ((1, 1),))
        self.assertEqual(poly_sum(((1, 2), (2, 3)), ((-1, 2), (-2, 3))), ())
        self.assertEqual(poly_sum((), ()), ())
        self.assertEqual(poly_product((), ((1, 1), (2, 1))), ())
        self.assertEqual(poly_product(((2, 3),), ((3, 2),)), ((1, 1),))

    def test_through(self):
        chance = random.Random(2)
        for many in range(1, 13):
            for bound in (1, 20, HUGE):
                values = tuple(as_ratio(poly_value(((chance.randint(-bound, bound), 1),), 0)
                                        / chance.randint(1, bound)) for _ in range(many))
                wanted = lagrange(list(range(many)), [poly_value((value,), 0) for value in values])
                self.assertEqual(through(values), wanted)
        for poly in self.polys:
            self.assertEqual(through(tuple(value_at(poly, n) for n in range(12))), poly)
        self.assertEqual(through(((0, 1),)), ())
        self.assertEqual(through(((0, 1),) * 12), ())
        self.assertEqual(through(((5, 3),) * 4), ((5, 3),))

    def test_wrong_polynomials(self):
        for wrong in WRONG_POLYNOMIALS:
            expect(self, BadPolynomial, value_at, wrong, 1)
            expect(self, BadPolynomial, value_at, wrong, None)
            for call in (poly_sum, poly_product):
                expect(self, BadPolynomial, call, wrong, LINE)
                expect(self, BadPolynomial, call, LINE, wrong)
                expect(self, BadPolynomial, call, wrong, wrong)

    def test_wrong_integers(self):
        for wrong in WRONG_INTEGERS:
            expect(self, BadNumber, value_at, LINE, wrong)
            expect(self, BadNumber, value_at, (), wrong)

    def test_wrong_values(self):
        for wrong in KINDS + NUMBERS + (((1, 1),) * 13, ((1, 1), (2, 2)), [(1, 1)], ((1, 1), 2), ((True, 1),),
                                        ((1, -1),), (1, 1), ((1, 1), (0, 2))):
            expect(self, BadValues, through, wrong)


class Quasi(unittest.TestCase):
    def test_value(self):
        chance = random.Random(3)
        for many in (1, 2, 3, 7, 60):
            quasi = tuple(random_poly(chance, 4, 9) for _ in range(many))
            for n in list(range(-2 * many, 2 * many)) + [HUGE, -HUGE]:
                self.assertEqual(quasi_value(quasi, n), as_ratio(quasi_value_of(quasi, n)))

    def test_negative_rest(self):
        quasi = (((1, 1),), ((2, 1),), ((3, 1),))
        self.assertEqual([quasi_value(quasi, n)[0] for n in range(-4, 3)], [3, 1, 2, 3, 1, 2, 3])

    def test_through(self):
        chance = random.Random(4)
        for period in (1, 2, 5, 12, 60):
            for turns in (1, 2, 4, 12):
                if period * turns > 240:
                    continue
                values = tuple((chance.randint(-9, 9), 1) for _ in range(period * turns))
                quasi = quasi_through(period, values)
                self.assertEqual(len(quasi), period)
                for rest, poly in enumerate(quasi):
                    nodes = list(range(rest, len(values), period))
                    self.assertEqual(poly, lagrange(nodes, [values[node][0] for node in nodes]))

    def test_through_at_the_limits(self):
        values = tuple((k * k, 1) for k in range(720))
        self.assertEqual(quasi_through(60, values), (((0, 1), (0, 1), (1, 1)),) * 60)
        self.assertEqual(quasi_through(1, ((0, 1),)), ((),))
        self.assertEqual(quasi_through(60, ((0, 1),) * 60), ((),) * 60)
        self.assertEqual(quasi_through(1, ((1, 3),) * 12), (((1, 3),),))

    def test_least(self):
        a, b, c = LINE, (), ((1, 1),)
        for items in ((a,), (a, b), (a, b, c), (a, a, b), (a, b, a, c), (a, b, b, a, a, b)):
            for times in (1, 2, 3, 10):
                self.assertEqual(least_quasi(items * times), items)
        self.assertEqual(least_quasi((a,) * 60), (a,))
        self.assertEqual(least_quasi((a,) * 59 + (b,)), (a,) * 59 + (b,))
        self.assertEqual(least_quasi((a, b, a, b, a)), (a, b, a, b, a))

    def test_wrong_quasi(self):
        for wrong in KINDS + NUMBERS + ((LINE,) * 61, [LINE], (LINE, None), LINE, (((1, 1), (0, 1)),), (LINE, [()]),
                                        (((2, 2),),), (((True, 1),),), (LINE, True)):
            expect(self, BadQuasi, quasi_value, wrong, 1)
            expect(self, BadQuasi, quasi_value, wrong, "x")
            expect(self, BadQuasi, least_quasi, wrong)

    def test_empty_items_are_right(self):
        self.assertEqual(quasi_value(((),), 4), (0, 1))
        self.assertEqual(least_quasi(((), ())), ((),))

    def test_wrong_number(self):
        for wrong in WRONG_INTEGERS:
            expect(self, BadNumber, quasi_value, (LINE,), wrong)
            expect(self, BadNumber, quasi_through, wrong, ((1, 1),))
        for wrong in (0, -1, 61, HUGE):
            expect(self, BadNumber, quasi_through, wrong, ((1, 1),))
            expect(self, BadNumber, quasi_through, wrong, None)

    def test_wrong_values(self):
        for wrong in KINDS + NUMBERS + (((1, 1),), ((1, 1),) * 3, ((1, 1),) * 26, ((1, 1), (2, 2)), [(1, 1), (1, 1)],
                                        ((1, 1), (True, 1))):
            expect(self, BadValues, quasi_through, 2, wrong)
        expect(self, BadValues, quasi_through, 60, ((1, 1),) * 59)
        expect(self, BadValues, quasi_through, 60, ((1, 1),) * 780)
        expect(self, BadValues, quasi_through, 1, ((1, 1),) * 13)
