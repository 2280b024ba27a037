"""The errors (sections 2 and 17)."""

import unittest

from liarslate import errors
from tests.helpers import odd_values

NAMES = """
NoProgram BadProgram BadHouse BadInput BadInputs BadHand BadRound BadCells BadHeard BadCalm NoLetter Quarrel BadLot
Begun BadNumber BadCounts BadCount BadLiars BadValue NoSlip BadLiar BadKind BadSlip BadStops BadSentence BadTalk BadLog
BadMany NotUsed BadStory NotWaiting BadMost Wide BadStopLot BadClaim NoBreak BadLayer BadSeal BadLetter BadRecord Kept
NothingToUndo NothingToRedo NoBlock BadJournal BadTask
""".split()


class Errors(unittest.TestCase):
    def test_all_are_there_and_derive_directly(self):
        self.assertEqual(len(NAMES), 46)
        self.assertEqual(errors.SlateError.__bases__, (ValueError,))
        for name in NAMES:
            kind = getattr(errors, name)
            self.assertEqual(kind.__bases__, (errors.SlateError,), name)
            self.assertEqual((kind.__name__, kind.__module__), (name, "liarslate.errors"))

    def test_each_keeps_any_value(self):
        for name in ["SlateError"] + NAMES:
            for value in odd_values() + [0, 5, -7, 10**30]:
                self.assertIs(getattr(errors, name)(value).value, value)

    def test_caught_as_value_error(self):
        for name in ["SlateError"] + NAMES:
            with self.assertRaises(ValueError) as caught:
                raise getattr(errors, name)((name, 1))
            self.assertEqual(caught.exception.value, (name, 1))

    def test_one_argument(self):
        for name in ["SlateError"] + NAMES:
            with self.assertRaises(TypeError):
                getattr(errors, name)()
            with self.assertRaises(TypeError):
                getattr(errors, name)(1, 2)


if __name__ == "__main__":
    unittest.main()
