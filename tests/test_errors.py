"""The errors: one attribute each, directly under MintError."""

import unittest

import wordmint.errors as errors

ATTRIBUTES = {
    "BadWidth": "width", "BadNumber": "number", "BadOp": "op", "ByZero": "number", "BadBase": "base",
    "BadCode": "code", "BadAddress": "address", "BadByte": "byte", "NoRoom": "length", "BadBody": "place",
    "BadName": "name", "BadEffect": "pair", "Unfit": "number", "NoWord": "number", "TooMany": "limit",
    "TooLong": "number", "BadItem": "item", "BadRoom": "room", "BadText": "line", "NoEnd": "column",
    "NoList": "number", "LastList": "number", "BadBlock": "number", "Unknown": "name", "Thrown": "number",
    "Refused": "kind", "NotChecked": "number", "BadRegisters": "registers", "BadRow": "row", "BadImage": "line",
    "StillOpen": "name", "BadMoment": "number", "NoBreak": "place",
}


class Errors(unittest.TestCase):
    def test_each_keeps_its_argument(self):
        for name, attribute in ATTRIBUTES.items():
            kind = getattr(errors, name)
            for thing in (7, None, "seven", (1, 2), [3]):
                error = kind(thing)
                self.assertEqual(vars(error), {attribute: thing}, name)
                self.assertIs(getattr(error, attribute), thing)

    def test_each_is_directly_under_the_base(self):
        self.assertEqual(errors.MintError.__bases__, (ValueError,))
        for name in ATTRIBUTES:
            self.assertEqual(getattr(errors, name).__bases__, (errors.MintError,), name)

    def test_there_are_no_others(self):
        defined = [name for name, thing in vars(errors).items() if isinstance(thing, type)]
        self.assertEqual(sorted(defined), sorted(list(ATTRIBUTES) + ["MintError"]))

    def test_each_takes_just_one_argument(self):
        for name in ATTRIBUTES:
            self.assertRaises(TypeError, getattr(errors, name))
            self.assertRaises(TypeError, getattr(errors, name), 1, 2)

    def test_a_raised_error_can_be_shown(self):
        for name in ATTRIBUTES:
            self.assertIn("12", str(getattr(errors, name)(12)))


if __name__ == "__main__":
    unittest.main()
