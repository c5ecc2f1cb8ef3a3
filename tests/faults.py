"""Values that are no shapes, no halves or flat, with the index that their error has."""
import itertools

LINE_OF_12 = tuple((k,) for k in range(12))
SQUARE = ((0, 0), (1, 0), (0, 1), (1, 1))
CUBE = tuple(itertools.product((0, 1), repeat=3))

BAD_SHAPES = (
    (None, None), (True, None), (False, None), (0, None), (10 ** 30, None), ("", None), ("0,0;1,0;0,1", None),
    ((), None), ([], None), ({}, None), (((0, 0),), None), (LINE_OF_12 + ((12,),), None), (list(SQUARE), None),
    ({(0, 0): 1, (1, 0): 2}, None), ((None,), None), (((0,), (1,), (1,), (1,)) * 4, None), ((1,), None),
    ((0, 0), 0), ((None, None), 0), ((True, (1,)), 0), (((), ()), 0), ((((),), (1,)), 0), (([0, 0], (1, 0), (0, 1)), 0),
    (((0, 0, 0, 0), (1, 0, 0, 0)), 0), (((51,), (0,)), 0), (((-51,), (0,)), 0), (((True,), (0,)), 0),
    ((("0",), (1,)), 0), (({0: 1}, (1,)), 0), (("0", "1"), 0), ((((0, 0), (1, 0)), (0, 1)), 0), (((None,), (None,)), 0),
    (((0, 51), (0, 51), (0, 0, 0)), 0),
    (((0,), (0,)), 1), (((0,), None), 1), (((0,), 1), 1), (((0,), (True,)), 1), (((0,), (0, 1)), 1),
    (((0, 0), (0,), (0, 0)), 1), (((0, 0), [1, 0], (0, 1)), 1), (((0, 0), (1, False), (0, 1)), 1),
    (((0, 0), "10", (0, 1)), 1), (((0, 0), {}, (0, 1)), 1), (((0, 0), (0, 0), (0, 51)), 1),
    (((0, 0), (1, 0), (0, 51)), 2), (((0, 0), (1, 0), (1, 0), None), 2), (((0, 0), (1, 0), (0, 0)), 2),
    (((0, 0), (1, 0), (0, -51)), 2), (((0, 0), (1, 0), (0, 1, 0)), 2), (((0, 0), (1, 0), ((0, 1),)), 2),
    (CUBE + ((0, 0, 0),), 8), (CUBE + ((0, 0, 10 ** 30),), 8), (LINE_OF_12[:11] + (None,), 11),
    (LINE_OF_12[:11] + ((0,),), 11),
    # Flat as well, but the wrong item is told first.
    (((0, 0), (1, 1), (2, 2), (2, 2)), 3),
)

FLATS = (((0, 0), (1, 1)), ((0, 0), (1, 1), (2, 2)), ((3, -4), (-6, 8), (0, 0), (6, -8)),
         ((0, 0, 0), (1, 0, 0), (0, 1, 0)), ((0, 0, 0), (1, 0, 0), (0, 1, 0), (1, 1, 0)),
         ((1, 0, 0), (0, 1, 0), (0, 0, 1), (2, -1, 0), (5, -2, -2)), tuple((k, k, k) for k in range(12)),
         tuple((k, 2 * k) for k in range(-25, -13)), ((0, 0, 0), (50, 50, 50)))

GOOD_SHAPES = (((0,), (1,)), ((-50,), (50,)), LINE_OF_12, SQUARE, CUBE)


def ask_shapes(test, expect, bad, flat, call, behind=()):
    """Ask a function whose first argument is a shape for its errors; behind are wrong further arguments."""
    for value, index in BAD_SHAPES:
        expect(test, bad, call, value, *behind, index=index)
    for value in FLATS:
        expect(test, flat, call, value, *behind)

BOX = (((2, 0), 3), ((-1, 0), 0), ((0, 3), 1), ((0, -1), 0))
UNIT = (((1,), 1), ((-1,), 0))

BAD_HALVES = (
    (None, None), (True, None), (3, None), ("", None), ("halves", None), ((), None), ([], None), ({}, None),
    (list(BOX), None), ((UNIT[0],), None), (UNIT * 5 + UNIT[:1], None), ({(1,): 1, (-1,): 0}, None),
    ((None, None), 0), (((1,), 1), 0), (("a", "b"), 0), (([(1,), 1], UNIT[1]), 0), (((1, 1), (-1, 0)), 0),
    ((((1,),), UNIT[1]), 0), ((((1,), 1, 1), UNIT[1]), 0), ((((), 1), ((), 0)), 0), ((((0,), 1), UNIT[1]), 0),
    ((((0, 0, 0), 1), ((0, 0, 0), 1)), 0), ((((1, 0, 0, 0), 1), ((-1, 0, 0, 0), 1)), 0), ((((51,), 1), UNIT[1]), 0),
    ((((-51,), 1), UNIT[1]), 0), ((((1,), 1001), UNIT[1]), 0), ((((1,), -1001), UNIT[1]), 0),
    ((((1,), True), UNIT[1]), 0), ((((True,), 1), UNIT[1]), 0), ((((1,), None), UNIT[1]), 0),
    ((((1,), (1, 1)), UNIT[1]), 0), ((((1,), "1"), UNIT[1]), 0), ((("1", 1), UNIT[1]), 0), ((([1], 1), UNIT[1]), 0),
    ((({0: 1}, 1), UNIT[1]), 0), ((((None,), 1), None), 0), (((((1,),), 1), UNIT[1]), 0),
    ((UNIT[0], None), 1), ((UNIT[0], ((-1, 0), 0)), 1), ((UNIT[0], ((0,), 0)), 1), ((UNIT[0], [(-1,), 0]), 1),
    ((UNIT[0], ((-1,), False)), 1), ((BOX[0], ((-1,), 0), None), 1), ((BOX[0], ((-1, 0, 0), 0)), 1),
    ((BOX[0], ((0, 0), 0), ((0, 3), 1)), 1), ((BOX[0], {}), 1), ((UNIT[0], UNIT), 1),
    (BOX[:3] + (((0, 0), 0),), 3), (BOX[:3] + (((0, -1), 10 ** 30),), 3), (UNIT * 4 + UNIT[:1] + (((2,), []),), 9),
    # Without an end as well, but the wrong item is told first.
    ((((1, 0), 1), ((0, 1), 1), ((0, 1), 1001)), 2),
)

UNBOUNDED = ((((1,), 1), ((2,), 3)), (((-1,), 1), ((-7,), -3)), (((1, 0), 1), ((-1, 0), 1)),
             (((1, 0), 1), ((-1, 0), 1), ((0, 1), 1)), (((1, 1), 0), ((-1, -1), 5)), (((1, 1), 0), ((1, 1), 5)),
             BOX[:3], (((1, 2), 0), ((-3, -7), 0), ((0, -1), 0), ((-1, -2), 0)),
             (((1, 0, 0), 1), ((-1, 0, 0), 1)), (((1, 0, 0), 1), ((-1, 0, 0), 1), ((0, 1, 0), 1), ((0, -1, 0), 1)),
             (((2, 4, 6), 1), ((-1, -2, -3), 0), ((1, 2, 3), 9)),
             (((1, 0, 0), 1), ((-1, 0, 0), 1), ((0, 1, 0), 1), ((0, -1, 0), 1), ((0, 0, 1), 0), ((1, 1, 1), 1)),
             # Empty as well, but this is told first.
             (((1, 0), -1), ((-1, 0), 0)), (((1, 0), 0), ((1, 0), -5), ((-1, 0), -7), ((0, 1), 1)))

EMPTY = ((((1,), -1), ((-1,), 0)), (((3,), 2), ((-3,), -3)), (((1,), -1000), ((-1,), -1000)),
         BOX + (((1, 1), -1),), (((50, 0), -1), ((-50, 0), 0), ((0, 1), 0), ((0, -1), 0)),
         (((1, 0, 0), 1), ((0, 1, 0), 1), ((0, 0, 1), 1), ((-1, -1, -1), -4)))


def ask_halves(test, expect, errors, call, behind=()):
    """Ask a function whose first argument is halves for its errors (BadHalves, Unbounded, Empty)."""
    bad, unbounded, empty = errors
    for value, index in BAD_HALVES:
        expect(test, bad, call, value, *behind, index=index)
    for value in UNBOUNDED:
        expect(test, unbounded, call, value, *behind)
    for value in EMPTY:
        expect(test, empty, call, value, *behind)
