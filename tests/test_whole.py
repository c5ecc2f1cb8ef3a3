"""Point 1, over all functions: which values may be passed, which errors come first, and that answers are equal and new."""
import copy
import importlib
import random
import unittest

from latticepoints import errors
from latticepoints.desks import Desk
from latticepoints.errors import LatticeError
from tests.test_language import INTERFACE
from tests.wrong import KINDS, NUMBERS

POLY = ((1, 1), (-3, 2), (1, 2))
QUASI = (POLY, (), ((0, 1), (1, 1)))
SQUARE = ((0, 0), (2, 0), (0, 2), (2, 2))
TRIANGLE = ((1, 0), (0, 1), (-1, -1))
SOLID = ((0, 0, 0), (1, 0, 0), (0, 1, 0), (1, 1, 3))
SEGMENT = ((3,), (-1,))
HALVES = (((2, 0), 5), ((-1, 0), 0), ((0, 2), 3), ((0, -1), 0))
CONE = ((0, 1), ((1, 0), (1, 3)), (1,))
ORDER = (3, ((0, 1), (2, 1)))
GRAPH = (3, ((0, 1), (1, 2)))
# For each function right arguments, and the errors that its point names.
CALLS = {
    "polynomials.value_at": ((POLY, -3), "BadPolynomial BadNumber"),
    "polynomials.poly_sum": ((POLY, ()), "BadPolynomial"),
    "polynomials.poly_product": ((POLY, POLY), "BadPolynomial"),
    "polynomials.through": ((((0, 1), (1, 2), (4, 1)),), "BadValues"),
    "polynomials.quasi_value": ((QUASI, 7), "BadQuasi BadNumber"),
    "polynomials.quasi_through": ((2, ((0, 1), (1, 1), (4, 1), (5, 3))), "BadNumber BadValues"),
    "polynomials.least_quasi": ((QUASI * 2,), "BadQuasi"),
    "equations.hermite": ((((4, 6), (2, 2)),), "BadRows"),
    "equations.completed": (((2, 3, 5),), "BadVector"),
    "equations.solve": ((((2, 1), (3, 5)), (1, 1)), "BadRows BadGoal"),
    "equations.shows": ((((2,), (4,)), (3,), ("mixture", ((1, 2),))), "BadRows BadGoal"),
    "shapes.corners": ((SQUARE,), "BadShape Flat"),
    "shapes.facets": ((SOLID,), "BadShape Flat"),
    "shapes.place_in": ((SQUARE, (1, 1)), "BadShape Flat BadPoint"),
    "shapes.points_in": ((SQUARE, 2), "BadShape Flat BadNumber TooMany"),
    "shapes.inner_points": ((SOLID, 3), "BadShape Flat BadNumber TooMany"),
    "shapes.content": ((SOLID,), "BadShape Flat"),
    "shapes.face_numbers": ((SOLID,), "BadShape Flat"),
    "halves.corners_of": ((HALVES,), "BadHalves Unbounded Empty"),
    "multiples.ehrhart": ((SOLID,), "BadShape Flat TooMany"),
    "multiples.border_content": ((SQUARE,), "BadShape Flat"),
    "multiples.points_of": ((HALVES, 3), "BadHalves Unbounded Empty BadNumber TooMany"),
    "multiples.quasi_count": ((HALVES,), "BadHalves Unbounded Empty TooMany"),
    "widths.width": ((SQUARE,), "BadShape Flat"),
    "widths.product": ((SEGMENT, SEGMENT), "BadShape Flat TooMany"),
    "widths.pyramid": ((SQUARE,), "BadShape Flat TooMany"),
    "parting.unparted": ((SOLID, 2), "BadShape Flat BadNumber TooMany"),
    "parting.is_normal": ((SOLID,), "BadShape Flat TooMany"),
    "stars.star": ((SOLID,), "BadShape Flat TooMany"),
    "stars.half_open": ((SQUARE,), "BadShape Flat"),
    "stars.box_points": ((TRIANGLE, (0, 2)), "BadShape NotSimplex Flat BadOpen"),
    "reflexive.is_reflexive": ((TRIANGLE,), "BadShape Flat"),
    "reflexive.polar": ((TRIANGLE,), "BadShape Flat NotReflexive TooMany"),
    "reflexive.center_of": ((SQUARE,), "BadShape Flat"),
    "forms.least_form": ((SQUARE,), "BadShape Flat NotPlane"),
    "forms.alike": ((SQUARE, SQUARE), "BadShape Flat NotPlane"),
    "forms.shows_alike": ((SQUARE, SQUARE, (((0, 1), (1, 0)), (0, 0))), "BadShape Flat NotPlane"),
    "forms.all_reflexive": ((), ""),
    "finecuts.fine_cut": ((SQUARE,), "BadShape Flat NotPlane TooMany"),
    "cones.in_cone": ((CONE, (3, 4)), "BadCone BadPoint"),
    "cones.cone_rows": ((CONE,), "BadCone"),
    "cones.cone_box": ((CONE,), "BadCone"),
    "cones.series_value": ((CONE, ((2, 1), (-1, 3))), "BadCone BadFactors Pole"),
    "cones.graded": ((CONE, (1, 0), 5), "BadCone BadGrade BadNumber"),
    "brion.corner_cones": ((SOLID,), "BadShape Flat"),
    "brion.unimodular_parts": ((CONE,), "BadCone"),
    "brion.count_by_cones": ((SOLID, 10 ** 9), "BadShape Flat BadNumber"),
    "signed.short_parts": (((1, 0), (-7, 12)), "BadPair"),
    "signed.power_sum": ((SQUARE, (1, -1), 2, 10), "BadShape Flat BadGrade BadNumber"),
    "coins.ways": (((1, 5, 10), 100), "BadCoins BadNumber"),
    "coins.ways_with_all": (((1, 2), 30), "BadCoins BadNumber"),
    "coins.pay_quasi": (((2, 3),), "BadCoins TooMany"),
    "coins.unpaid": (((3, 5),), "BadCoins"),
    "coins.least_by_rest": (((3, 5),), "BadCoins"),
    "coins.two_ways": ((3, 5, 10 ** 18), "BadCoins BadNumber"),
    "threecoins.greatest_unpaid": ((7, 11, 13), "BadPair TooMany"),
    "dedekind.dedekind": ((7, 30), "BadPair"),
    "dedekind.corner_count": ((2, 3, 5, 7), "BadPair BadNumber"),
    "steps.steps": ((30, 7), "BadPair TooMany"),
    "steps.from_steps": (((3, 2, 7),), "BadSteps"),
    "steps.least_sums": (((0, 1), (7, -3)), "BadPair TooMany"),
    "steps.sail": (((0, 1), (7, -3)), "BadPair TooMany"),
    "steps.floor_sum": ((10, 3, -7, 2), "BadNumber"),
    "cuts.integer_hull": ((HALVES,), "BadHalves NotPlane Unbounded NoPoint"),
    "cuts.cut_lines": ((HALVES, (((0, (1, 2)),), ((4, (2, 1)),))), "BadHalves NotPlane Unbounded BadPaper"),
    "cuts.best": ((HALVES, (1, 2)), "BadHalves NotPlane Unbounded BadGoal"),
    "cuts.rounds": ((HALVES,), "BadHalves NotPlane Unbounded"),
    "orders.order_polynomial": ((ORDER,), "BadOrder"),
    "orders.extensions": ((ORDER,), "BadOrder"),
    "orders.unload": ((ORDER, (1, 4, 2)), "BadOrder BadMap"),
    "orders.load": ((ORDER, (1, 2, 0)), "BadOrder BadMap"),
    "orders.loaded_count": ((ORDER, 4), "BadOrder BadNumber"),
    "ordershapes.order_shape": ((ORDER,), "BadOrder TooMany"),
    "ordershapes.loaded_shape": ((ORDER,), "BadOrder TooMany"),
    "tables.table_count": (((1, 2, 3), (3, 2, 1)), "BadSums"),
    "tables.square_polynomial": ((3,), "BadNumber"),
    "colorings.coloring_polynomial": ((GRAPH,), "BadGraph"),
    "colorings.open_orientations": ((GRAPH,), "BadGraph"),
    "texts.write_shape": ((SQUARE,), "BadShape Flat"),
    "texts.read_shape": (("0,0;2,0;0,2",), "NotText BadText BadShape Flat"),
}
# Functions whose last argument may be any value.
JUDGED = ("equations.shows", "forms.shows_alike")
# Functions that take () for some argument.
WITH_EMPTY = ("polynomials.value_at", "polynomials.poly_sum", "polynomials.poly_product", "cuts.cut_lines", "stars.box_points")
# Errors that are never those of a later argument, where there is an earlier one of another kind.
FIRST = "BadPolynomial BadQuasi BadRows BadShape Flat NotSimplex BadHalves NotPlane Unbounded Empty BadCone BadCoins BadOrder".split()
LEAVES = (None, True, False, 0, 1, -1, 2, 3, 7, 51, 1001, 10 ** 30, -10 ** 30, "", "a", "solution", "0;1")


def function(name):
    module, attribute = name.split(".")
    return getattr(importlib.import_module(f"latticepoints.{module}"), attribute)


def kind_of(value):
    """The kinds in an answer, with tuples in full."""
    if isinstance(value, tuple):
        return {tuple} | {kind for item in value for kind in kind_of(item)}
    return {value.__class__}


def drawn_value(chance, depth=3):
    """Any value made of integers, strings, booleans, None, tuples, lists and dicts."""
    kind = chance.randint(0, 9)
    if depth == 0 or kind < 3:
        return chance.choice(LEAVES)
    items = [drawn_value(chance, depth - 1) for _ in range(chance.randint(0, 4))]
    if kind < 8:
        return tuple(items)
    if kind == 8:
        return items
    return {chance.choice((0, 1, "a", (1, 2))): item for item in items}


def changed(chance, value):
    """A value that differs a little from a value."""
    if isinstance(value, tuple) and value and chance.random() < 0.8:
        at = chance.randrange(len(value))
        kind = chance.randint(0, 6)
        if kind == 0:
            return value[:at] + value[at + 1:]
        if kind == 1:
            return value[:at] + value[at:at + 1] * 2 + value[at + 1:]
        if kind == 2:
            return list(value)
        return value[:at] + (changed(chance, value[at]),) + value[at + 1:]
    if isinstance(value, int) and chance.random() < 0.6:
        return value + chance.choice((-1, 1, -2, 3, -value, -2 * value, 50, 1000, 10 ** 9))
    return drawn_value(chance, 2)


def told(call, args):
    """(answer, None) or (None, (error, fields)); no other errors are caught."""
    try:
        return call(*args), None
    except LatticeError as error:
        return None, (error.__class__, vars(error))


class Whole(unittest.TestCase):
    def ask(self, name, args):
        """Ask twice; check that the answers are equal, the arguments are as before, and the error is one that is named."""
        call, allowed = function(name), [getattr(errors, error) for error in CALLS[name][1].split()]
        before = copy.deepcopy(args)
        answer, error = told(call, args)
        self.assertEqual(told(call, before), (answer, error), name)
        self.assertEqual(args, before, name)
        if error:
            self.assertIn(error[0], allowed, f"{name}{args!r}")
        return answer, error

    def test_each_function_of_the_interface_is_here(self):
        wanted = {f"{file}.{name}" for file, names in INTERFACE.items() for name in names.split()}
        self.assertEqual(wanted - {"desks.Desk"}, set(CALLS))

    def test_right_arguments(self):
        for name, (args, _) in CALLS.items():
            answer, error = self.ask(name, args)
            self.assertIsNone(error, name)
            self.assertLessEqual(kind_of(answer), {tuple, int, str, bool, type(None)}, name)
            if name.split(".")[1] not in ("shows", "shows_alike", "is_normal", "is_reflexive", "in_cone"):
                self.assertNotIn(bool, kind_of(answer), name)

    def test_any_value_for_each_argument(self):
        for name, (args, _) in CALLS.items():
            for at in range(len(args)):
                for value in KINDS + NUMBERS[:-1]:
                    answer, error = self.ask(name, args[:at] + (value,) + args[at + 1:])
                    if name in JUDGED and at == len(args) - 1:
                        self.assertEqual((answer, error), (False, None))
                    elif not isinstance(value, int) or isinstance(value, bool):
                        self.assertTrue(error or name in WITH_EMPTY and value == (), (name, at, value))

    def test_drawn_and_changed_values(self):
        chance = random.Random(361)
        for name, (args, _) in CALLS.items():
            failed = 0
            for _ in range(120 if args else 0):
                tried = list(args)
                for at in range(len(args)):
                    if chance.random() < 1 / len(args):
                        tried[at] = changed(chance, args[at]) if chance.random() < 0.7 else drawn_value(chance)
                _, error = self.ask(name, tuple(tried))
                failed += error is not None
            self.assertGreater(failed, 20 if args else -1, name)

    def test_the_leftmost_error_comes_first(self):
        chance = random.Random(362)
        asked = 0
        for name, (args, _) in CALLS.items():
            for _ in range(40 if len(args) > 1 else 0):
                value = changed(chance, args[0]) if chance.random() < 0.7 else chance.choice(KINDS)
                _, error = self.ask(name, (value,) + args[1:])
                if error and error[0].__name__ in FIRST:
                    asked += 1
                    behind = tuple(chance.choice(KINDS + (-1, (1, 2, 3, 4, 5))) for _ in args[1:])
                    self.assertEqual(self.ask(name, (value,) + behind)[1], error, (name, value, behind))
        self.assertGreater(asked, 300)

    def test_answers_do_not_share_state(self):
        for name, (args, _) in CALLS.items():
            first = function(name)(*args)
            for other in ("shapes.corners", "cuts.best", "orders.load"):
                function(other)(*CALLS[other][0])
            self.assertEqual(function(name)(*args), first, name)

    def test_desks_take_any_value(self):
        chance = random.Random(363)
        desk = Desk()
        desk.run("a = points 0;1")
        for _ in range(400):
            value = drawn_value(chance)
            if isinstance(value, str):
                continue
            self.assertEqual(told(desk.run, (value,))[1], (errors.NotText, {}))
            self.assertEqual(told(desk.shape, (value,))[1], (errors.BadName, {}))
        self.assertEqual(desk.names(), ("a",))
