"""Section 2 and 31: the errors."""

import unittest

import roundedsteps.errors as errors
from roundedsteps.errors import RoundError
from tests.helping import wrong_values

NAMES = """BadGrid NoNumber NoRank BadMore BadFraction BadWay BadRow BadWorth BadFour BadProgram BadChoices BadBox
OtherInputs TooLong BadInputs BadLot NoEnd BadNumber BadName BadCut BadLine BadClaim BadTree ManyInputs Broken NoName
BadRule NoStep NotLed BadMaking ManyResults BadLooks BadNames BadPrices BadPrograms BadSeen NoWorth BadStages BadFold
BadStart BadParts BadStarts BadPart BadLaps BadNumbers BadMany TooGreat NoInput BadRange Full Wanted BadTold NoClaim
NothingToUndo NothingToRedo NoTrial BadJournal""".split()


class Errors(unittest.TestCase):
    """All errors derive directly from RoundError, and keep any value."""

    def test_round_error_stands_below_value_error(self):
        self.assertEqual(RoundError.__bases__, (ValueError,))

    def test_all_others_stand_directly_below_round_error(self):
        for name in NAMES:
            self.assertEqual(getattr(errors, name).__bases__, (RoundError,), name)

    def test_there_are_no_others(self):
        found = [name for name, part in vars(errors).items() if isinstance(part, type)]
        self.assertEqual(sorted(found), sorted(NAMES + ['RoundError']))

    def test_each_keeps_any_value(self):
        for name in NAMES + ['RoundError']:
            for value in wrong_values():
                self.assertIs(getattr(errors, name)(value).value, value)

    def test_each_is_raised_with_its_value(self):
        for name in NAMES + ['RoundError']:
            value = [name]
            with self.assertRaises(RoundError) as caught:
                raise getattr(errors, name)(value)
            self.assertIs(caught.exception.value, value)

    def test_each_takes_just_one_argument(self):
        for name in NAMES + ['RoundError']:
            self.assertRaises(TypeError, getattr(errors, name))
            self.assertRaises(TypeError, getattr(errors, name), 1, 2)


if __name__ == '__main__':
    unittest.main()
