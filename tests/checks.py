"""What the tests of all modules say in the same way."""

import unittest

# The attributes in which errors keep their argument, where it is not "at".
KEPT = {"InvalidSize": "word", "Refused": "word", "NoName": "name"}


class Checks(unittest.TestCase):
    def raises(self, error, told, call, *arguments):
        """Whether a call raises an error of just this class, with this argument kept in its attribute."""
        with self.assertRaises(error) as caught:
            call(*arguments)
        self.assertIs(caught.exception.__class__, error)
        kept = getattr(caught.exception, KEPT.get(error.__name__, "at"))
        self.assertEqual((kept, kept.__class__), (told, told.__class__), arguments)

    def same(self, value, other):
        """Equality that tells bools from integers, and lists from tuples, within too."""
        self.assertEqual(repr(value), repr(other))
        self.assertEqual(value, other)
