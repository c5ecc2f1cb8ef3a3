"""The classes of latticepoints.errors, and their fields."""
import unittest

from latticepoints import errors

PLAIN = ("BadPolynomial BadNumber BadValues BadQuasi BadRows BadVector BadGoal Flat BadPoint Unbounded Empty BadOpen "
         "NotSimplex NotReflexive NotPlane BadCone BadFactors Pole BadGrade BadCoins BadPair BadSteps NoPoint BadOrder "
         "BadMap BadSums BadGraph NotText BadName").split()
FIELDS = {"TooMany": "most", "BadShape": "index", "BadHalves": "index", "BadPaper": "index", "BadText": "place",
          "BadCommand": "line"}


class Errors(unittest.TestCase):
    def test_base(self):
        self.assertEqual(errors.LatticeError.__bases__, (ValueError,))

    def test_direct_subclasses(self):
        for name in PLAIN + list(FIELDS):
            with self.subTest(name=name):
                self.assertEqual(getattr(errors, name).__bases__, (errors.LatticeError,))

    def test_no_other_classes(self):
        found = {name for name, value in vars(errors).items() if isinstance(value, type)}
        self.assertEqual(found, set(PLAIN) | set(FIELDS) | {"LatticeError"})
        self.assertEqual(len(found), 36)

    def test_fields(self):
        for name, field in FIELDS.items():
            for value in (0, 7, None):
                with self.subTest(name=name, value=value):
                    error = getattr(errors, name)(value)
                    self.assertEqual(vars(error), {field: value})
                    self.assertTrue(str(error))

    def test_without_fields(self):
        for name in PLAIN:
            with self.subTest(name=name):
                self.assertEqual(vars(getattr(errors, name)()), {})
