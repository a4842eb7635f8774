"""The refusals as the interface tells them."""

import unittest

from ken import errors

NAMES = ("NoText", "NoWorlds", "NoRule", "NoLine", "NoKind", "NoTurning", "Large", "NotShown", "Twice", "NoWish",
         "NoRow")
FIELDS = {"NoText": "at", "NoWorlds": "world", "NoLine": "line"}


def made(name):
    error = getattr(errors, name)
    return error(5) if name in FIELDS else error()


class Errors(unittest.TestCase):
    def test_any_refusal_is_a_value_error(self):
        self.assertEqual(errors.KenError.__bases__, (ValueError,))

    def test_each_stands_under_ken_error_alone(self):
        for name in NAMES:
            self.assertEqual(getattr(errors, name).__bases__, (errors.KenError,), name)

    def test_none_is_another_one(self):
        for name in NAMES:
            for other in NAMES:
                self.assertEqual(isinstance(made(name), getattr(errors, other)), name == other, (name, other))

    def test_each_is_raised_and_taken(self):
        for name in NAMES:
            for taken in (getattr(errors, name), errors.KenError, ValueError):
                with self.assertRaises(taken):
                    raise made(name)

    def test_fields(self):
        for name, field in FIELDS.items():
            for value in (0, 5, 20000):
                self.assertEqual(getattr(getattr(errors, name)(value), field), value)

    def test_those_without_fields_may_have_words(self):
        for name in NAMES:
            if name not in FIELDS:
                self.assertEqual(str(getattr(errors, name)("why so")), "why so")


if __name__ == "__main__":
    unittest.main()
