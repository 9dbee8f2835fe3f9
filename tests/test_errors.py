"""Point 3, and the errors of the interface."""

import unittest

from deedshares import errors

DIRECT = ["InvalidName", "InvalidArrow", "InvalidPair", "InvalidNumber", "InvalidWeights", "InvalidDeed",
          "NotTold", "NothingToUndo", "TooMany", "Unreadable"]
NAMES = ["DeedError"] + DIRECT
VALUES = [0, -5, 10 ** 30, "", "a", ("a", "b"), (["y"], ["x", "y"]), ["a", [1]], None, True, {"a": 1}, object(), b"a",
          ValueError("a")]


class ErrorsTest(unittest.TestCase):

    def test_value_is_kept_itself_by_position_and_by_name(self):
        for name in NAMES:
            for value in VALUES:
                with self.subTest(name=name, value=value):
                    self.assertIs(getattr(errors, name)(value).value, value)
                    self.assertIs(getattr(errors, name)(value=value).value, value)

    def test_value_is_kept_when_raised(self):
        for name in NAMES:
            value = [name]
            for base in (getattr(errors, name), errors.DeedError, ValueError):
                with self.subTest(name=name, base=base), self.assertRaises(base) as caught:
                    raise getattr(errors, name)(value)
                self.assertIs(caught.exception.value, value)

    def test_just_one_argument(self):
        for name in NAMES:
            with self.subTest(name=name):
                self.assertRaises(TypeError, getattr(errors, name))
                self.assertRaises(TypeError, getattr(errors, name), 1, 2)
                self.assertRaises(TypeError, getattr(errors, name), other=1)

    def test_bases(self):
        self.assertEqual(errors.DeedError.__bases__, (ValueError,))
        for name in DIRECT:
            self.assertEqual(getattr(errors, name).__bases__, (errors.DeedError,))

    def test_none_is_a_subclass_of_another_one(self):
        for one in DIRECT:
            for other in DIRECT:
                self.assertEqual(issubclass(getattr(errors, one), getattr(errors, other)), one == other)

    def test_defined_here_and_no_others(self):
        found = {name for name, thing in vars(errors).items() if isinstance(thing, type)}
        self.assertEqual(found, set(NAMES))
        for name in NAMES:
            self.assertEqual(getattr(errors, name).__module__, "deedshares.errors")
