"""[4] The errors."""

import unittest

from leastfield import errors
from tests.samples import FAN

WITH_AT = ("InvalidFraction", "InvalidPoint", "InvalidRing", "InvalidPlate", "InvalidMesh", "InvalidWorths",
           "InvalidField", "InvalidPaper", "InvalidText")
WITH_WORD = ("InvalidSize", "Refused")
THINGS = (0, -1, True, None, "word", [1, [2]], (1, (2,)), {"a": 1}, FAN)


class Errors(unittest.TestCase):
    def test_bases(self):
        self.assertEqual(errors.FieldError.__bases__, (Exception,))
        for name in WITH_AT + WITH_WORD + ("InvalidCommand",):
            self.assertEqual(getattr(errors, name).__bases__, (errors.FieldError,), name)
        self.assertEqual(errors.NoName.__bases__, (KeyError,))

    def test_arguments_are_kept_themselves(self):
        for names, attribute in ((WITH_AT, "at"), (WITH_WORD, "word"), (("NoName",), "name")):
            for name in names:
                for thing in THINGS:
                    one = getattr(errors, name)(thing)
                    other = getattr(errors, name)(**{attribute: thing})
                    self.assertIs(getattr(one, attribute), thing)
                    self.assertIs(getattr(other, attribute), thing)

    def test_each_takes_just_its_arguments(self):
        for name in WITH_AT + WITH_WORD + ("NoName",):
            with self.assertRaises(TypeError):
                getattr(errors, name)()
        self.assertIsInstance(errors.InvalidCommand(), errors.FieldError)
        self.assertIsInstance(errors.FieldError(), Exception)

    def test_they_can_be_raised_and_caught(self):
        for name in WITH_AT + WITH_WORD:
            with self.assertRaises(errors.FieldError):
                raise getattr(errors, name)("here")
        with self.assertRaises(errors.FieldError):
            raise errors.InvalidCommand()
        with self.assertRaises(KeyError):
            raise errors.NoName("kind")
