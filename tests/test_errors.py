"""Point 16: the errors."""

import unittest

from helpers import any_values
from uselots import errors
from uselots.errors import UseError

NAMES = """NoProgram BadProgram BadPlace BadWay NoPart BadMost BadMany NotEnded StuckAt Ended BadTable BadUse BadUses
BadLooks Unlike BadText Wide BadPaper BadPlaces BadPiece Quarrel OtherParts NoPiece Lacks Ring NotPlain TooMany Endless
NoAsk BadLine OtherArity BadNumbers Alike Amid Watched NotWatched NothingToUndo NothingToRedo NoBlock BadJournal BadTask
BadExpression""".split()


class Errors(unittest.TestCase):
    def test_there_are_just_these(self):
        told = [name for name, value in vars(errors).items() if isinstance(value, type)]
        self.assertEqual(sorted(told), sorted(NAMES + ["UseError"]))

    def test_each_derives_directly(self):
        self.assertEqual(UseError.__bases__, (ValueError,))
        for name in NAMES:
            self.assertEqual(getattr(errors, name).__bases__, (UseError,), name)

    def test_each_is_defined_in_its_file(self):
        for name in NAMES + ["UseError"]:
            self.assertEqual(getattr(errors, name).__module__, "uselots.errors")

    def test_each_keeps_its_value(self):
        for name in NAMES + ["UseError"]:
            for value in any_values():
                self.assertIs(getattr(errors, name)(value).value, value)

    def test_each_wants_just_one_argument(self):
        for name in NAMES + ["UseError"]:
            for told in ((), (1, 2)):
                with self.assertRaises(TypeError):
                    getattr(errors, name)(*told)

    def test_each_can_be_raised_and_caught(self):
        for name in NAMES:
            with self.assertRaises(UseError) as caught:
                raise getattr(errors, name)(name)
            self.assertEqual(caught.exception.value, name)
            with self.assertRaises(ValueError):
                raise getattr(errors, name)(None)


if __name__ == "__main__":
    unittest.main()
