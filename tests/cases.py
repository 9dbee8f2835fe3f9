"""What many tests assert: the very kinds of an answer, and an error with its value."""

import unittest


class KindCase(unittest.TestCase):

    def assert_same(self, told, expected):
        """The answer is equal, and so are its kinds throughout: no True for 1, no tuple for a list."""
        self.assertEqual(told, expected)
        self.assertEqual(repr(told), repr(expected))

    def assert_raised(self, error, value, called, *passed, **named):
        """The call raises this very error with this value, and changes nothing that it is passed."""
        before = repr((passed, named))
        with self.assertRaises(error) as caught:
            called(*passed, **named)
        self.assertIs(caught.exception.__class__, error)
        self.assert_same(caught.exception.value, value)
        self.assertEqual(repr((passed, named)), before)

    def assert_takes(self, called, names):
        """The function takes these arguments, by position in this sequence and by these names."""
        self.assertEqual(called.__code__.co_varnames[:called.__code__.co_argcount], tuple(names))
        self.assertEqual(called.__code__.co_kwonlyargcount, 0)
        self.assertIsNone(called.__defaults__)
