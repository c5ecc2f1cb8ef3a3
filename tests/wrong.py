"""Wrong values of all kinds, and how the tests ask for errors."""
import copy

from latticepoints.errors import LatticeError

# Of every kind that callers may pass; none of them is a right argument of any function, but for integers
# where a function takes those of any size.
KINDS = (None, True, False, "", "0", "points", (), [], {}, [0], [1, 2], {0: 1}, {"a": (1, 2)}, (None,), (True,),
         ("a",), ([],), ({},), ((None,),), ((True, False),), (("a", "b"),), ([1, 2], [3, 4]), ([(0, 1)],),
         (((((),),),),), [[0, 0], [1, 0], [0, 1]], [(0, 0), (1, 0), (0, 1)], {(0, 0): 1, (1, 0): 2},
         (None, None), ("solution", None), ((1, 2, 3), "ab"), ((0, 0), None), ((0, 0), (1, True), (0, 1)))
NUMBERS = (0, 1, -1, 7, 10 ** 30)


def expect(test, error, call, *args, **fields):
    """Ask for this very error class, with these fields, and for arguments that are left as they were."""
    before = copy.deepcopy(args)
    with test.assertRaises(LatticeError, msg=f"{call.__name__}{args!r}") as caught:
        call(*args)
    test.assertIs(caught.exception.__class__, error, f"{call.__name__}{args!r}")
    for name, value in fields.items():
        found = getattr(caught.exception, name)
        test.assertEqual((found, found.__class__), (value, value.__class__), f"{call.__name__}{args!r}")
    test.assertEqual(args, before)
