"""Section 17: the errors."""

import unittest

from dialsums import errors
from tests.samples import ANY

NAMES = (
    "BadParts BadNumber BadText BadName BadValues BadDial BadSum BadWhole BadShares BadOthers TooGreat BadRows BadSums "
    "BadPlan NoNote NoPerson BadPeople BadBy NoLine BadLine Needed BadNumbers BadFew Unlike BadSeen NoFit BadOffers "
    "BadWishes BadRounds BadLooks BadWord TooMany BadNote Full NothingToUndo NothingToRedo NoTrial BadJournal BadDesk "
    "BadSay"
).split()

BELOW = tuple(getattr(errors, name) for name in NAMES)
ALL = (errors.DialError,) + BELOW


class Errors(unittest.TestCase):
    def test_there_are_40_below_dial_error(self):
        self.assertEqual(len(set(BELOW)), 40)

    def test_each_derives_directly(self):
        self.assertEqual(errors.DialError.__bases__, (ValueError,))
        for error in BELOW:
            self.assertEqual(error.__bases__, (errors.DialError,), error)

    def test_names_and_files(self):
        for name, error in zip(["DialError"] + NAMES, ALL):
            self.assertEqual(error.__name__, name)
            self.assertEqual(error.__module__, "dialsums.errors")

    def test_no_other_class_stands_there(self):
        classes = [value for value in vars(errors).values() if isinstance(value, type)]
        self.assertEqual(set(classes), set(ALL))

    def test_each_keeps_the_very_value(self):
        for error in ALL:
            for value in ANY:
                self.assertIs(error(value).value, value)
                self.assertIs(error(value=value).value, value)

    def test_each_keeps_the_very_value_when_raised(self):
        for error in ALL:
            for value in ANY:
                with self.assertRaises(ValueError) as held:
                    raise error(value)
                self.assertIs(held.exception.value, value)
                self.assertIs(held.exception.__class__, error)

    def test_none_takes_more_or_less_than_one_argument(self):
        for error in ALL:
            self.assertRaises(TypeError, error)
            self.assertRaises(TypeError, error, 1, 2)

    def test_none_is_caught_as_another_one(self):
        for error in BELOW:
            for other in BELOW:
                self.assertEqual(issubclass(error, other), error is other, (error, other))
                try:
                    raise error(None)
                except other:
                    self.assertIs(error, other)
                except errors.DialError:
                    self.assertIsNot(error, other)

    def test_dial_error_is_caught_as_none_below(self):
        for error in BELOW:
            self.assertNotIsInstance(errors.DialError(1), error)

    def test_each_can_be_shown(self):
        for error in ALL:
            for value in ANY:
                self.assertIsInstance(str(error(value)), str)


if __name__ == "__main__":
    unittest.main()
