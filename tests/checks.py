"""What the tests of all modules say in the same way."""

import unittest


class Checks(unittest.TestCase):
    def raises(self, error, told, call, *arguments):
        """Whether a call raises an error of just this class, with this argument kept in its attribute."""
        with self.assertRaises(error) as caught:
            call(*arguments)
        self.assertIs(caught.exception.__class__, error)
        kept = [worth for worth in vars(caught.exception).values()]
        self.assertEqual([(worth, worth.__class__) for worth in kept], [(told, told.__class__)], arguments)

    def same(self, value, other):
        """Equality that tells bools from integers, and lists from tuples, within too."""
        self.assertEqual(repr(value), repr(other))
        self.assertEqual(value, other)
