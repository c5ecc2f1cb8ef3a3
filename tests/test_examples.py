"""The examples of the interface, word for word."""
import unittest

EXAMPLES = '''
>>> from latticepoints.polynomials import least_quasi, poly_product, quasi_value, through, value_at
>>> [through(((0, 1), (1, 1), (4, 1))), value_at(((1, 2), (1, 2)), 3), poly_product(((1, 1), (1, 1)), ((-1, 1), (1, 1))), quasi_value(((), ((1, 1),)), -3), least_quasi((((1, 1),),) * 4)]
[((0, 1), (0, 1), (1, 1)), (2, 1), ((-1, 1), (0, 1), (1, 1)), (1, 1), (((1, 1),),)]

>>> from latticepoints.equations import hermite, shows, solve
>>> [hermite(((4, 6), (2, 2))), solve(((2,), (3,)), (1,))[0], solve(((2,), (4,)), (3,)), shows(((2,), (4,)), (3,), ('mixture', ((1, 2),)))]
[((2, 0), (0, 2)), 'solution', ('mixture', ((1, 2),)), True]

>>> from latticepoints.shapes import content, corners, face_numbers, facets, place_in
>>> kite = ((0, 0), (3, 1), (1, 3), (-1, -1), (1, 1))
>>> [corners(kite), content(kite), face_numbers(kite), place_in(kite, (2, 2)), facets(((0,), (5,)))]
[((-1, -1), (1, 3), (3, 1)), 12, (3, 3), 0, (((-1,), 0), ((1,), 5))]

>>> from latticepoints.shapes import inner_points, points_in
>>> [points_in(((0, 0), (1, 0), (0, 1)), 2), inner_points(((0, 0), (1, 0), (0, 1)), 3)]
[((0, 0), (0, 1), (0, 2), (1, 0), (1, 1), (2, 0)), ((1, 1),)]

>>> from latticepoints.shapes import corners
>>> corners(((0, 0), (1, 1), (2, 2)))
raises Flat()

>>> from latticepoints.shapes import corners
>>> corners(((0, 0), (1, 0), (0, 51)))
raises BadShape(index=2)

>>> from latticepoints.halves import corners_of
>>> corners_of((((2, 0), 3), ((-1, 0), 0), ((0, 3), 1), ((0, -1), 0)))
(((0, 1), (0, 1)), ((0, 1), (1, 3)), ((3, 2), (0, 1)), ((3, 2), (1, 3)))

>>> from latticepoints.multiples import border_content, ehrhart, points_of, quasi_count
>>> half = (((2,), 1), ((-1,), 0))
>>> [ehrhart(((0, 0), (1, 0), (0, 1))), border_content(((0, 0), (1, 0), (0, 1))), quasi_count(half), points_of(half, 5)]
[((1, 1), (3, 2), (1, 2)), 3, (((1, 1), (1, 2)), ((1, 2), (1, 2))), ((0,), (1,), (2,))]

>>> from latticepoints.widths import product, pyramid, width
>>> [product(((0,), (1,)), ((0,), (2,))), pyramid(((0,), (1,))), width(((0, 0), (3, 0), (0, 3)))[0]]
[((0, 0), (0, 2), (1, 0), (1, 2)), ((0, 0), (0, 1), (1, 0)), 3]

>>> from latticepoints.parting import is_normal, unparted
>>> empty = ((0, 0, 0), (1, 0, 0), (0, 1, 0), (1, 1, 2))
>>> [unparted(empty, 2), is_normal(empty), is_normal(((0, 0), (3, 1), (1, 3)))]
[((1, 1, 1),), False, True]
'''


def told(lines):
    """What the last line gives, as the interface writes it."""
    names = {}
    for line in lines[:-1]:
        exec(line, names)
    try:
        return repr(eval(lines[-1], names))
    except ValueError as error:
        fields = ", ".join(f"{name}={value!r}" for name, value in vars(error).items())
        return f"raises {error.__class__.__name__}({fields})"


class Examples(unittest.TestCase):
    def test_examples(self):
        examples = EXAMPLES.strip().split("\n\n")
        self.assertEqual(len(examples), 10)
        for example in examples:
            *lines, answer = example.split("\n")
            with self.subTest(example=lines[-1]):
                self.assertEqual(told([line[4:] for line in lines]), answer)
