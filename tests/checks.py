"""What several test files ask for."""

import unittest

from fourtell import errors

SEVEN = ("NoPack", "NoHand", "NoRow", "NoCard", "NoNumber", "NoPlan", "NoNote")

# The greatest and the least whole number of thirty figures.
GREATEST = 10 ** 30 - 1
LEAST = -GREATEST


class Checks(unittest.TestCase):
    def refused(self, name, function, *handed):
        """The call is refused with the class of this name and with no other of the seven."""
        with self.assertRaises(ValueError, msg=(function.__name__, handed)) as caught:
            function(*handed)
        error = caught.exception
        self.assertIs(type(error), getattr(errors, name), (function.__name__, handed))
        self.assertIsInstance(error, errors.TellError)
        for other in SEVEN:
            self.assertEqual(isinstance(error, getattr(errors, other)), other == name)

    def whole(self, value):
        self.assertIs(type(value), int)
