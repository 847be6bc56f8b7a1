"""[5]: the errors."""
import unittest

from hushedasks import errors
from samples import any_values, mend_book

WITH_VALUE = [
    "InvalidList", "InvalidItem", "InvalidBook", "InvalidLot", "InvalidRun", "InvalidGoal",
    "InvalidNumber", "InvalidText",
]
WITH_NAME = ["InvalidName", "TakenName", "UnknownName"]


class TestErrors(unittest.TestCase):
    def test_the_first_is_a_value_error_and_made_without_arguments(self):
        self.assertEqual(errors.HushError.__bases__, (ValueError,))
        self.assertIsInstance(errors.HushError(), ValueError)

    def test_all_others_are_derived_directly_from_it(self):
        for name in WITH_VALUE + WITH_NAME + ["NothingToUndo"]:
            self.assertEqual(getattr(errors, name).__bases__, (errors.HushError,), name)
            self.assertEqual(getattr(errors, name).__name__, name)

    def test_there_are_twelve_of_them(self):
        own = [x for x in vars(errors).values() if isinstance(x, type) and x.__module__ == "hushedasks.errors"]
        self.assertEqual(len(own), 13)

    def test_fields_hold_the_very_object(self):
        for value in any_values() + [mend_book()]:
            for name in WITH_VALUE:
                self.assertIs(getattr(errors, name)(value).value, value)
                self.assertIs(getattr(errors, name)(value=value).value, value)
            for name in WITH_NAME:
                self.assertIs(getattr(errors, name)(value).name, value)
                self.assertIs(getattr(errors, name)(name=value).name, value)

    def test_fields_are_none_when_nothing_is_given(self):
        for name in WITH_VALUE:
            self.assertIsNone(getattr(errors, name)().value)
        for name in WITH_NAME:
            self.assertIsNone(getattr(errors, name)().name)

    def test_fields_are_set_on_each_object(self):
        for name in WITH_VALUE:
            self.assertEqual(list(vars(getattr(errors, name)())), ["value"])
        for name in WITH_NAME:
            self.assertEqual(list(vars(getattr(errors, name)())), ["name"])

    def test_nothing_to_undo_is_made_without_arguments(self):
        with self.assertRaises(errors.HushError):
            raise errors.NothingToUndo()

    def test_they_are_caught_as_value_errors_and_can_be_shown(self):
        for name in WITH_VALUE + WITH_NAME:
            for value in any_values() + [mend_book()]:
                with self.assertRaises(ValueError) as caught:
                    raise getattr(errors, name)(value)
                self.assertIsInstance(str(caught.exception) + repr(caught.exception), str)


if __name__ == "__main__":
    unittest.main()
