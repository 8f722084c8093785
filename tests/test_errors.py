"""Promise 2: the errors of the interface, those of later stages too."""

import unittest

from stepsunread import errors
from tests.samples import ANY, nested

NAMES = (
    "BadWork NoStep NoFile BadFacts BadWay BadCrew BadStand BadEnd BadBook BadWorld BadQuestion BadMarks "
    "BadQuestions NotSure NoWorld BadPrices BadSteps BadLog BadGoal BadCount BadTruth BadContent UnderWay "
    "NotUnderWay BadMill Clash TooMany NoMark Full NothingToUndo NoTrial BadProgram BadEvent BadText "
    "BadHouse BadLine"
).split()


class ErrorsTest(unittest.TestCase):
    def classes(self):
        return [getattr(errors, name) for name in NAMES]

    def test_there_are_just_these(self):
        there = [name for name in vars(errors) if isinstance(vars(errors)[name], type)]
        self.assertEqual(sorted(there), sorted(NAMES + ["StepError"]))

    def test_what_they_derive_from(self):
        self.assertEqual(errors.StepError.__bases__, (ValueError,))
        for error in self.classes():
            self.assertEqual(error.__bases__, (errors.StepError,))
            self.assertEqual(error.__module__, "stepsunread.errors")
            for other in self.classes():
                self.assertEqual(issubclass(error, other), error is other)

    def test_value_by_place_and_by_name(self):
        values = ANY + [nested(tuple, 43), nested(list, 100000), errors.NoStep(1)]
        for error in self.classes() + [errors.StepError]:
            for value in values:
                self.assertIs(error(value).value, value)
                self.assertIs(error(value=value).value, value)

    def test_one_argument(self):
        for error in self.classes():
            self.assertRaises(TypeError, error)
            self.assertRaises(TypeError, error, 1, 2)
            self.assertRaises(TypeError, error, line=1)

    def test_raised_and_caught(self):
        for error in self.classes():
            with self.assertRaises(errors.StepError) as held:
                raise error([1])
            self.assertEqual(held.exception.value, [1])


if __name__ == "__main__":
    unittest.main()
