"""The classes of errors: what they derive from, and what they keep."""

import unittest

from truebeat import errors

MESSAGED = (
    "InvalidNet", "InvalidSheet", "InvalidPlan", "InvalidShape", "InvalidState", "InvalidInputs", "InvalidProgram",
    "InvalidMemory", "InvalidLines", "InvalidAsk", "InvalidChoice", "InvalidPaper", "InvalidOperation",
)
KEEPING = {
    "ParseError": (errors.BeatError, "spot"), "InvalidNumber": (IndexError, "given"),
    "UnknownName": (KeyError, "asked"), "NothingToUndo": (LookupError, "wanted"),
    "TooMany": (OverflowError, "limit"), "Refused": (ArithmeticError, "reason"),
}
VALUES = (None, True, 3, -10 ** 80, "", "some text", (), ("ring", (0, 1)), [1, [2]], {"x": {}}, ValueError("x"))


class ErrorsTest(unittest.TestCase):
    def test_what_derives_from_what(self):
        self.assertEqual(errors.BeatError.__bases__, (ValueError,))
        for name in MESSAGED:
            self.assertEqual(getattr(errors, name).__bases__, (errors.BeatError,), name)
        for name, (base, _) in KEEPING.items():
            self.assertEqual(getattr(errors, name).__bases__, (base,), name)

    def test_each_is_defined_in_its_file(self):
        for name in ("BeatError", *MESSAGED, *KEEPING):
            self.assertEqual(getattr(errors, name).__module__, "truebeat.errors")

    def test_what_is_kept(self):
        for name, (_, attribute) in KEEPING.items():
            for value in VALUES:
                error = getattr(errors, name)(value)
                self.assertIs(getattr(error, attribute), value)
                self.assertEqual(vars(error), {attribute: value})

    def test_any_one_value_is_taken(self):
        for name in ("BeatError", *MESSAGED):
            for value in VALUES:
                with self.assertRaises(errors.BeatError) as caught:
                    raise getattr(errors, name)(value)
                self.assertEqual(caught.exception.args, (value,))

    def test_only_kin_catches_them(self):
        self.assertFalse(issubclass(errors.InvalidNumber, ValueError))
        self.assertFalse(issubclass(errors.TooMany, errors.BeatError))
        self.assertFalse(issubclass(errors.Refused, errors.BeatError))
        self.assertFalse(issubclass(errors.UnknownName, errors.BeatError))
        self.assertTrue(issubclass(errors.ParseError, ValueError))


if __name__ == "__main__":
    unittest.main()
