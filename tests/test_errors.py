"""The classes of errors: what they keep, and what they stand under."""

import inspect
import unittest

from backwalks import errors
from tests.helpers import ODD_VALUES, Odd

ATTRIBUTES = {
    ("given",): ["InvalidWalk", "InvalidWeights", "InvalidRing", "InvalidLot", "InvalidNumber", "InvalidFraction",
                 "InvalidFlow", "InvalidTable", "InvalidGlasses", "InvalidSighted", "InvalidTold", "InvalidChances",
                 "NoRow", "NotADesk", "TooMany"],
    ("index",): ["InvalidPlaces", "InvalidShares", "InvalidRow", "InvalidTies"],
    ("line", "place"): ["InvalidText", "TwiceNamed", "UnknownName", "NoSum"],
    ("ring",): ["NotAlike"],
    (): ["NotWhole", "NotOfThisKind", "NothingToUndo"],
}
LISTED = [(getattr(errors, name), attributes) for attributes, names in ATTRIBUTES.items() for name in names]


class ErrorsTest(unittest.TestCase):

    def test_no_other_class(self):
        defined = [name for name, value in vars(errors).items() if inspect.isclass(value)]
        listed = ["WalkError"] + [name for names in ATTRIBUTES.values() for name in names]
        self.assertEqual(sorted(defined), sorted(listed))

    def test_bases(self):
        self.assertEqual(errors.WalkError.__bases__, (ValueError,))
        for error, _ in LISTED:
            self.assertEqual(error.__bases__, (errors.WalkError,))
            self.assertEqual(error.__mro__, (error, errors.WalkError) + ValueError.__mro__)

    def test_defined_here(self):
        for error, _ in LISTED + [(errors.WalkError, ())]:
            self.assertEqual(error.__module__, "backwalks.errors")

    def test_parameters(self):
        for error, attributes in LISTED:
            if attributes:
                self.assertEqual(tuple(inspect.signature(error).parameters), attributes)

    def test_by_position_and_by_name(self):
        for error, attributes in LISTED:
            for value in ODD_VALUES + [Odd()]:
                values = [value, (value, "other")][:len(attributes)]
                named = dict(zip(attributes, values))
                for made in (error(*values), error(**named)):
                    self.assertEqual(sorted(vars(made)), sorted(attributes))
                    for name in attributes:
                        self.assertIs(getattr(made, name), named[name])

    def test_by_position_and_by_name_at_once(self):
        for name in ATTRIBUTES[("line", "place")]:
            made = getattr(errors, name)(3, place=None)
            self.assertEqual(vars(made), {"line": 3, "place": None})
            made = getattr(errors, name)(place=4, line=0)
            self.assertEqual(vars(made), {"line": 0, "place": 4})

    def test_attributes_are_needed(self):
        for error, attributes in LISTED:
            if attributes:
                with self.assertRaises(TypeError):
                    error()

    def test_made_of_nothing(self):
        for error in [errors.WalkError, errors.NotWhole, errors.NotOfThisKind, errors.NothingToUndo]:
            self.assertEqual(vars(error()), {})
            with self.assertRaises(errors.WalkError):
                raise error()

    def test_caught(self):
        for error, attributes in LISTED:
            for base in (error, errors.WalkError, ValueError):
                with self.assertRaises(base):
                    raise error(*attributes)

    def test_not_caught_by_another(self):
        for error, _ in LISTED:
            for other, attributes in LISTED:
                self.assertEqual(isinstance(other(*attributes), error), error is other)


if __name__ == "__main__":
    unittest.main()
