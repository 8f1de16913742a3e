import unittest

from fourtell import errors
from tests.checks import SEVEN


class ErrorsTest(unittest.TestCase):
    def test_tell_error_is_straight_under_value_error(self):
        self.assertEqual(errors.TellError.__bases__, (ValueError,))

    def test_each_of_the_seven_is_straight_under_tell_error(self):
        for name in SEVEN:
            self.assertEqual(getattr(errors, name).__bases__, (errors.TellError,), name)
            self.assertEqual(getattr(errors, name).__name__, name)

    def test_none_of_the_seven_is_under_another(self):
        for name in SEVEN:
            for other in SEVEN:
                under = issubclass(getattr(errors, name), getattr(errors, other))
                self.assertEqual(under, name == other, (name, other))

    def test_each_can_be_raised_with_words_and_taken_as_any_refusal(self):
        for name in ("TellError",) + SEVEN:
            with self.assertRaises(errors.TellError) as caught:
                raise getattr(errors, name)("some words")
            self.assertEqual(str(caught.exception), "some words")


if __name__ == "__main__":
    unittest.main()
