"""The errors: their base classes and what they keep."""

import unittest

from noroadback import errors

TOLD = [
    "InvalidWord", "InvalidTurner", "InvalidSum", "InvalidWeb", "InvalidRoad", "InvalidStand", "InvalidTable",
    "InvalidOrder", "InvalidOperation",
]
KEEPING = [
    ("ParseError", errors.RoadError, "spot"), ("InvalidNumber", IndexError, "given"), ("UnknownName", KeyError, "wanted"),
    ("TooMany", OverflowError, "most"), ("Refused", ArithmeticError, "reason"), ("NothingToUndo", LookupError, "steps"),
]


class Errors(unittest.TestCase):
    def test_the_base_of_all_invalid_values_is_a_value_error(self):
        self.assertEqual(errors.RoadError.__bases__, (ValueError,))

    def test_errors_with_a_message_derive_directly_from_it(self):
        for name in TOLD:
            with self.subTest(name):
                error = getattr(errors, name)
                self.assertEqual(error.__bases__, (errors.RoadError,))
                with self.assertRaises(errors.RoadError):
                    raise error("a message")

    def test_errors_that_keep_a_value_have_the_told_bases(self):
        for name, base, _ in KEEPING:
            with self.subTest(name):
                self.assertEqual(getattr(errors, name).__bases__, (base,))

    def test_errors_keep_any_value_as_it_is(self):
        for name, _, attribute in KEEPING:
            for value in [None, True, 0, -7, 10 ** 99, "x", (), ("empty",), [1, [2]], {"a": 1}, errors.RoadError("x")]:
                with self.subTest(name, value=value):
                    self.assertIs(getattr(getattr(errors, name)(value), attribute), value)

    def test_errors_keep_what_is_passed_by_keyword(self):
        for name, _, attribute in KEEPING:
            with self.subTest(name):
                self.assertEqual(getattr(getattr(errors, name)(**{attribute: 5}), attribute), 5)

    def test_errors_have_a_text(self):
        for name in TOLD + [name for name, _, _ in KEEPING]:
            with self.subTest(name):
                self.assertIsInstance(str(getattr(errors, name)("x")), str)

    def test_classes_of_their_own_stand_in_the_module(self):
        for name in ["RoadError"] + TOLD + [name for name, _, _ in KEEPING]:
            self.assertEqual(getattr(errors, name).__module__, "noroadback.errors")
