"""The examples of the interface, word for word."""
import unittest

EXAMPLES = r'''
>>> from latticepoints.polynomials import least_quasi, poly_product, quasi_value, through, value_at
>>> [through(((0, 1), (1, 1), (4, 1))), value_at(((1, 2), (1, 2)), 3), poly_product(((1, 1), (1, 1)), ((-1, 1), (1, 1))), quasi_value(((), ((1, 1),)), -3), least_quasi((((1, 1),),) * 4)]
[((0, 1), (0, 1), (1, 1)), (2, 1), ((-1, 1), (0, 1), (1, 1)), (1, 1), (((1, 1),),)]

>>> from latticepoints.equations import hermite, shows, solve
>>> [hermite(((4, 6), (2, 2))), solve(((2,), (3,)), (1,))[0], solve(((2,), (4,)), (3,)), shows(((2,), (4,)), (3,), ('mixture', ((1, 2),)))]
[((2, 0), (0, 2)), 'solution', ('mixture', ((1, 2),)), True]

>>> from latticepoints.shapes import content, corners, face_numbers, facets, place_in
>>> kite = ((0, 0), (3, 1), (1, 3), (-1, -1), (1, 1))
>>> [corners(kite), content(kite), face_numbers(kite), place_in(kite, (2, 2)), facets(((0,), (5,)))]
[((-1, -1), (1, 3), (3, 1)), 12, (3, 3), 0, (((-1,), 0), ((1,), 5))]

>>> from latticepoints.shapes import inner_points, points_in
>>> [points_in(((0, 0), (1, 0), (0, 1)), 2), inner_points(((0, 0), (1, 0), (0, 1)), 3)]
[((0, 0), (0, 1), (0, 2), (1, 0), (1, 1), (2, 0)), ((1, 1),)]

>>> from latticepoints.shapes import corners
>>> corners(((0, 0), (1, 1), (2, 2)))
raises Flat()

>>> from latticepoints.shapes import corners
>>> corners(((0, 0), (1, 0), (0, 51)))
raises BadShape(index=2)

>>> from latticepoints.halves import corners_of
>>> corners_of((((2, 0), 3), ((-1, 0), 0), ((0, 3), 1), ((0, -1), 0)))
(((0, 1), (0, 1)), ((0, 1), (1, 3)), ((3, 2), (0, 1)), ((3, 2), (1, 3)))

>>> from latticepoints.multiples import border_content, ehrhart, points_of, quasi_count
>>> half = (((2,), 1), ((-1,), 0))
>>> [ehrhart(((0, 0), (1, 0), (0, 1))), border_content(((0, 0), (1, 0), (0, 1))), quasi_count(half), points_of(half, 5)]
[((1, 1), (3, 2), (1, 2)), 3, (((1, 1), (1, 2)), ((1, 2), (1, 2))), ((0,), (1,), (2,))]

>>> from latticepoints.widths import product, pyramid, width
>>> [product(((0,), (1,)), ((0,), (2,))), pyramid(((0,), (1,))), width(((0, 0), (3, 0), (0, 3)))[0]]
[((0, 0), (0, 2), (1, 0), (1, 2)), ((0, 0), (0, 1), (1, 0)), 3]

>>> from latticepoints.parting import is_normal, unparted
>>> empty = ((0, 0, 0), (1, 0, 0), (0, 1, 0), (1, 1, 2))
>>> [unparted(empty, 2), is_normal(empty), is_normal(((0, 0), (3, 1), (1, 3)))]
[((1, 1, 1),), False, True]

>>> from latticepoints.stars import box_points, star
>>> [star(((0,), (4,))), star(((0, 0, 0), (1, 0, 0), (0, 1, 0), (1, 1, 5))), box_points(((0,), (2,)), (0, 1))]
[(1, 3), (1, 0, 4, 0), ((1, (1,)), (2, (2,)))]

>>> from latticepoints.reflexive import center_of, is_reflexive, polar
>>> three = ((1, 0), (0, 1), (-1, -1))
>>> [is_reflexive(three), polar(three), center_of(((0,), (2,))), center_of(((0,), (3,)))]
[True, ((-2, 1), (1, -2), (1, 1)), (1,), None]

>>> from latticepoints.forms import alike, all_reflexive, least_form, shows_alike
>>> square = ((5, 5), (5, 6), (6, 5), (6, 6))
>>> [least_form(square), len(all_reflexive()), alike(square, ((0, 0), (2, 0), (0, 2))), shows_alike(((0, 0), (1, 0), (0, 1)), ((0, 0), (0, 1), (1, 0)), (((0, 1), (1, 0)), (0, 0)))]
[((0, 0), (1, 0), (1, 1), (0, 1)), 16, None, True]

>>> from latticepoints.finecuts import fine_cut
>>> fine_cut(((0, 0), (1, 0), (0, 1)))
(((0, 0), (0, 1), (1, 0)),)

>>> from latticepoints.cones import cone_box, cone_rows, graded, in_cone, series_value
>>> wide = ((0, 0), ((1, 0), (1, 3)), ())
>>> [cone_box(wide), cone_rows(wide), graded(wide, (1, 0), 3), in_cone(wide, (1, 3)), series_value(((3,), ((1,),), ()), ((2, 1),))]
[((0, 0), (1, 1), (1, 2)), ((3, -1), (0, 1)), (1, 4, 7, 10), True, (-8, 1)]

>>> from latticepoints.brion import corner_cones, count_by_cones
>>> square = ((0, 0), (0, 1), (1, 0), (1, 1))
>>> [count_by_cones(square, 10 ** 9), len(corner_cones(square))]
[1000000002000000001, 4]

>>> from latticepoints.signed import power_sum
>>> [power_sum(((0,), (1,)), (1,), 2, 10), power_sum(((0, 0), (1, 0), (0, 1)), (1, 1), 1, 2)]
[385, 8]

>>> from latticepoints.coins import least_by_rest, pay_quasi, two_ways, unpaid, ways, ways_with_all
>>> [ways((1, 5, 10, 25, 50), 100), ways_with_all((1, 2), 5), unpaid((3, 5)), least_by_rest((3, 5)), two_ways(3, 5, 15), pay_quasi((2,))]
[292, 2, (1, 2, 4, 7), (0, 10, 5), 2, (((1, 1),), ())]

>>> from latticepoints.threecoins import greatest_unpaid
>>> [greatest_unpaid(7, 11, 13), greatest_unpaid(13, 7, 11)]
[30, 30]

>>> from latticepoints.dedekind import corner_count, dedekind
>>> [dedekind(1, 5), dedekind(2, 5), corner_count(1, 1, 1, 2), corner_count(1, 2, 3, 1)]
[(1, 5), (0, 1), 10, 8]

>>> from latticepoints.steps import floor_sum, from_steps, least_sums, sail, steps
>>> [steps(7, 3), from_steps((3, 2)), least_sums((0, 1), (5, -2)), sail((0, 1), (5, -2)), floor_sum(5, 3, 2, 0)]
[(3, 2, 2), (5, 2), ((0, 1), (1, 0), (3, -1), (5, -2)), ((0, 1), (1, 0), (5, -2)), 5]

>>> from latticepoints.cuts import best, cut_lines, integer_hull, rounds
>>> box = (((2, 0), 5), ((-1, 0), 0), ((0, 2), 3), ((0, -1), 0))
>>> [integer_hull(box), rounds(box), best(box, (1, 1))[:3], cut_lines(box, (((0, (1, 2)),),))]
[((0, 0), (0, 1), (2, 0), (2, 1)), 1, ('best', 3, (2, 1)), (((1, 0), 2),)]

>>> from latticepoints.cuts import integer_hull
>>> integer_hull((((3, 0), 2), ((-3, 0), -1), ((0, 1), 1), ((0, -1), 0)))
raises NoPoint()

>>> from latticepoints.orders import extensions, load, loaded_count, order_polynomial, unload
>>> [order_polynomial((2, ((0, 1),))), extensions((3, ())), unload((3, ((0, 1), (1, 2))), (1, 3, 3)), load((3, ((0, 2), (1, 2))), (1, 4, 2)), loaded_count((2, ((0, 1),)), 2)]
[((1, 1), (3, 2), (1, 2)), 6, (1, 2, 0), (1, 4, 6), 6]

>>> from latticepoints.ordershapes import loaded_shape, order_shape
>>> [order_shape((2, ((0, 1),))), loaded_shape((2, ((0, 1),)))]
[((0, 0), (0, 1), (1, 1)), ((0, 0), (0, 1), (1, 0))]

>>> from latticepoints.tables import square_polynomial, table_count
>>> [table_count((1, 2, 3), (3, 2, 1)), square_polynomial(3)]
[12, ((1, 1), (9, 4), (15, 8), (3, 4), (1, 8))]

>>> from latticepoints.colorings import coloring_polynomial, open_orientations
>>> [coloring_polynomial((2, ((0, 1),))), open_orientations((2, ((0, 1),)))]
[((0, 1), (-1, 1), (1, 1)), ((0,), (1,))]

>>> from latticepoints.texts import read_shape, write_shape
>>> [write_shape(((0, 0), (-3, 12), (1, 1))), read_shape('0,0;1,0;0,1')]
['0,0;-3,12;1,1', ((0, 0), (1, 0), (0, 1))]

>>> from latticepoints.texts import read_shape
>>> read_shape('0,0;01')
raises BadText(place=5)

>>> from latticepoints.desks import Desk
>>> desk = Desk()
>>> [desk.run('a = points 0;2\nb = product a a\nstar b\ncount b 3\nundo'), desk.names(), desk.run('undo\nundo')]
[('1 6 1', '49', 'b'), ('a',), ('a', 'nothing')]
'''


def told(lines):
    """What the last line gives, as the interface writes it."""
    names = {}
    for line in lines[:-1]:
        exec(line, names)
    try:
        return repr(eval(lines[-1], names))
    except ValueError as error:
        fields = ", ".join(f"{name}={value!r}" for name, value in vars(error).items())
        return f"raises {error.__class__.__name__}({fields})"


class Examples(unittest.TestCase):
    def test_examples(self):
        examples = EXAMPLES.strip().split("\n\n")
        self.assertEqual(len(examples), 30)
        for example in examples:
            *lines, answer = example.split("\n")
            with self.subTest(example=lines[-1]):
                self.assertEqual(told([line[4:] for line in lines]), answer)
