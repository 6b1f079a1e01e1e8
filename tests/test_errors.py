"""The error classes: their base, their attributes, and that they write no text of great numbers."""

import unittest

from lookstop import errors
from lookstop.errors import StopError

WITH_ATTRIBUTES = {
    "InvalidRatio": {"value": (5, 0)},
    "InvalidStretch": {"low": (1, 2), "high": (1, 3)},
    "InvalidWord": {"word": "at least 2/4"},
    "InvalidTable": {"place": "looks"},
    "InvalidRing": {"state": 3},
    "Endless": {"state": 1},
    "InvalidText": {"line": 4},
    "InvalidResult": {"index": 2},
    "TrialOver": {"word": "no word"},
    "OverBudget": {"missing": 3},
}
WITHOUT = ("NotExact", "NothingToUndo", "NothingToRedo")


class ErrorsTest(unittest.TestCase):
    def test_the_base_is_a_value_error(self):
        self.assertEqual(StopError.__bases__, (ValueError,))

    def test_thirteen_classes_derive_directly(self):
        names = sorted([*WITH_ATTRIBUTES, *WITHOUT])
        self.assertEqual(len(names), 13)
        found = sorted(cls.__name__ for cls in StopError.__subclasses__() if cls.__module__ == "lookstop.errors")
        self.assertEqual(found, names)
        for name in names:
            self.assertEqual(getattr(errors, name).__bases__, (StopError,))

    def test_attributes_by_position_and_by_keyword(self):
        for name, values in WITH_ATTRIBUTES.items():
            cls = getattr(errors, name)
            for made in (cls(*values.values()), cls(**values)):
                self.assertEqual(vars(made), values, name)

    def test_classes_without_attributes(self):
        for name in WITHOUT:
            cls = getattr(errors, name)
            for made in (cls(), cls("why")):
                self.assertEqual(vars(made), {}, name)

    def test_each_can_be_raised_and_caught_by_the_base(self):
        for name in WITHOUT:
            with self.assertRaises(StopError):
                raise getattr(errors, name)("why")
        for name, values in WITH_ATTRIBUTES.items():
            with self.assertRaises(StopError):
                raise getattr(errors, name)(**values)

    def test_numbers_of_many_digits(self):
        great = 10 ** 6000
        self.assertEqual(errors.InvalidRatio((great, 0)).value, (great, 0))
        self.assertEqual(errors.OverBudget(great).missing, great)
        self.assertEqual(errors.InvalidStretch((great, 1), (1, 1)).low, (great, 1))


if __name__ == "__main__":
    unittest.main()
