"""[2], [69]: the errors."""

import unittest

import allstreams.errors as errors
from tests.helpers import Case

FIELDS = {
    "BadValue": ["value"], "NoDivisor": [], "AtNought": [], "NotAText": ["at"], "NoGiver": ["name"],
    "TwoGivers": ["name"], "Unknown": ["name"], "Taken": ["name"], "Apart": ["name"], "Within": ["name"],
    "Unpaced": ["at"], "TooMany": ["most"], "StandsStill": [], "CannotStep": ["box"], "Unlike": [],
    "Singular": [], "NotSquare": [], "NotUndone": [], "HasLoops": [], "BadCode": ["at"], "HasSource": ["name"],
    "NotOfNet": [], "NotDriven": [], "NotAFile": ["line", "at"], "BadPromise": ["promise"],
    "Broken": ["promise", "paper"], "NotMade": ["promise"], "NothingToUndo": [], "NothingToRedo": [],
}


class Errors(Case):
    def test_all_of_them_are_there_and_no_others(self):
        told = [name for name, value in vars(errors).items() if isinstance(value, type)]
        self.assertEqual(sorted(told), sorted([*FIELDS, "StreamError"]))

    def test_they_derive_directly(self):
        self.assertEqual(errors.StreamError.__bases__, (ValueError,))
        for name in FIELDS:
            self.assertEqual(getattr(errors, name).__bases__, (errors.StreamError,), name)

    def test_fields_by_position_and_by_name_are_kept_as_they_are(self):
        for name, fields in FIELDS.items():
            made = getattr(errors, name)
            values = [[object()], {1: []}][:len(fields)]
            by_position = made(*values)
            by_name = made(**dict(zip(fields, values)))
            for error in (by_position, by_name):
                self.assertEqual(list(vars(error)), fields, name)
                for field, value in zip(fields, values):
                    self.assertIs(getattr(error, field), value)

    def test_they_are_raised_and_caught_as_value_errors(self):
        with self.assertRaises(ValueError) as caught:
            raise errors.NotAFile(3, 4)
        self.assertEqual((caught.exception.line, caught.exception.at), (3, 4))

    def test_a_wrong_number_of_fields(self):
        with self.assertRaises(TypeError):
            errors.BadValue()
        with self.assertRaises(TypeError):
            errors.Broken("a")


if __name__ == "__main__":
    unittest.main()
