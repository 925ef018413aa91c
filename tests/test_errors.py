"""smalti/errors.py: all error classes and their attributes."""

import inspect
import unittest

from smalti import errors
from smalti.errors import Impossible, OutOfPicture, RuleClash, SmaltiError
from tests.helper import HUGE

ATTRIBUTES = {
    "InvalidPicture": ["line"],
    "InvalidRule": ["part"],
    "InvalidBook": ["line"],
    "InvalidSketch": ["line"],
    "InvalidHistory": ["line"],
    "InvalidSign": ["sign"],
    "InvalidSigns": ["signs"],
    "InvalidLimit": ["value"],
    "OutOfPicture": ["x", "y"],
    "NoStone": ["x", "y"],
    "NoHole": ["x", "y"],
    "EmptyCell": ["x", "y"],
    "Opposed": ["x", "y"],
    "NotOld": ["x", "y"],
    "NotNew": ["x", "y"],
    "SurelyOld": ["x", "y"],
    "SurelyNew": ["x", "y"],
    "SurelyAfter": ["x", "y"],
    "NoRule": ["number"],
    "NoPhotograph": ["number"],
    "WrongStone": ["stone"],
    "RuleClash": ["places"],
    "BadDeed": ["index"],
    "Impossible": ["lacking"],
    "TooManyCases": ["cases"],
    "UnknownOption": ["name"],
    "UnequalSize": [],
    "NothingToUndo": [],
    "StillPossible": [],
}


class Errors(unittest.TestCase):
    def test_there_are_exactly_these_classes(self):
        found = [name for name, _ in inspect.getmembers(errors, inspect.isclass)]
        self.assertEqual(sorted(found), sorted(["SmaltiError", *ATTRIBUTES]))
        self.assertEqual(len(ATTRIBUTES), 29)

    def test_the_classes_are_defined_in_the_file(self):
        for name in ["SmaltiError", *ATTRIBUTES]:
            self.assertEqual(getattr(errors, name).__module__, "smalti.errors")

    def test_the_base_class_is_a_value_error(self):
        self.assertEqual(SmaltiError.__bases__, (ValueError,))

    def test_all_others_derive_directly_from_the_base_class(self):
        for name in ATTRIBUTES:
            self.assertEqual(getattr(errors, name).__bases__, (SmaltiError,), name)

    def test_the_attributes_come_in_order(self):
        for name, attributes in ATTRIBUTES.items():
            values = [f"value of {attribute}" for attribute in attributes]
            error = getattr(errors, name)(*values)
            self.assertEqual(vars(error), dict(zip(attributes, values)), name)

    def test_the_arguments_have_the_names_of_the_attributes(self):
        for name, attributes in ATTRIBUTES.items():
            values = {attribute: f"value of {attribute}" for attribute in attributes}
            self.assertEqual(vars(getattr(errors, name)(**values)), values, name)

    def test_a_wrong_number_of_arguments_is_refused(self):
        for name, attributes in ATTRIBUTES.items():
            if attributes:
                with self.assertRaises(TypeError, msg=name):
                    getattr(errors, name)()
                with self.assertRaises(TypeError, msg=name):
                    getattr(errors, name)(*attributes, "one more")

    def test_each_can_be_raised_and_caught(self):
        for name, attributes in ATTRIBUTES.items():
            with self.assertRaises(SmaltiError):
                raise getattr(errors, name)(*attributes)

    def test_numbers_may_be_of_any_size(self):
        error = OutOfPicture(HUGE, -HUGE)
        self.assertEqual((error.x, error.y), (HUGE, -HUGE))

    def test_lists_are_not_copied(self):
        cells = [(0, 1)]
        self.assertIs(Impossible(cells).lacking, cells)
        self.assertIs(RuleClash(cells).places, cells)


if __name__ == "__main__":
    unittest.main()
