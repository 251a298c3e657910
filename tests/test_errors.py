"""Point [5]."""
import copy
import pickle
import unittest

from sparecells import errors
from tests.support import any_objects

WITH_VALUE = [
    "InvalidCount", "InvalidNeeds", "InvalidRecipe", "InvalidBlock", "InvalidLot", "InvalidLots", "InvalidOrder",
    "InvalidBound", "InvalidRow", "InvalidCells", "InvalidCell", "InvalidContent", "InvalidDeed", "InvalidCourse",
    "InvalidCuts", "InvalidDevice", "InvalidScript", "InvalidText", "InvalidRecord", "Refused",
]
WITHOUT = ["NothingToUndo", "NothingToRedo"]


class ErrorsTest(unittest.TestCase):
    def test_just_these_classes_are_there(self):
        found = [name for name, thing in vars(errors).items() if isinstance(thing, type)]
        self.assertEqual(sorted(found), sorted(WITH_VALUE + WITHOUT + ["CellsError"]))

    def test_each_is_derived_from_the_base_alone(self):
        self.assertEqual(errors.CellsError.__bases__, (ValueError,))
        for name in WITH_VALUE + WITHOUT:
            self.assertEqual(getattr(errors, name).__bases__, (errors.CellsError,), name)

    def test_each_is_defined_in_its_module(self):
        for name in WITH_VALUE + WITHOUT + ["CellsError"]:
            self.assertEqual(getattr(errors, name).__module__, "sparecells.errors")

    def test_value_is_none_if_left_out(self):
        for name in WITH_VALUE:
            self.assertIsNone(getattr(errors, name)().value, name)

    def test_value_is_the_very_object(self):
        for name in WITH_VALUE:
            made = getattr(errors, name)
            for thing in any_objects():
                self.assertIs(made(thing).value, thing)
                self.assertIs(made(value=thing).value, thing)

    def test_value_outlives_copies(self):
        for name in WITH_VALUE:
            error = getattr(errors, name)([0, 1])
            for again in (copy.copy(error), copy.deepcopy(error), pickle.loads(pickle.dumps(error))):
                self.assertIs(type(again), type(error))
                self.assertEqual(again.value, [0, 1])

    def test_the_last_two_and_the_base_are_made_of_nothing(self):
        for name in WITHOUT + ["CellsError"]:
            self.assertFalse(hasattr(getattr(errors, name)(), "value"), name)

    def test_each_is_caught_as_a_value_error_and_as_no_other(self):
        for name in WITH_VALUE + WITHOUT:
            with self.assertRaises(ValueError):
                raise getattr(errors, name)()
            for other in WITH_VALUE + WITHOUT:
                if other != name:
                    self.assertNotIsInstance(getattr(errors, name)(), getattr(errors, other))
