"""Point 3: the exceptions of the program."""

import unittest

from thaumatrope import errors

NAMES = [
    "BadFormat", "BadFrame", "OutOfRange", "OutOfBits", "BadOctets", "BadHeader", "BadData",
    "BadContainer", "BadCommand", "CapacityTooSmall",
]


class Errors(unittest.TestCase):
    def test_the_base_class_is_a_value_error(self):
        self.assertEqual(errors.CodecError.__bases__, (ValueError,))

    def test_each_exception_derives_from_the_base_class(self):
        for name in NAMES:
            with self.subTest(name):
                error = getattr(errors, name)
                self.assertEqual(error.__bases__, (errors.CodecError,))
                self.assertEqual(error.__name__, name)
                self.assertEqual(error.__module__, "thaumatrope.errors")

    def test_exceptions_are_different_classes(self):
        for name in NAMES:
            for other in NAMES:
                if name != other:
                    self.assertFalse(issubclass(getattr(errors, name), getattr(errors, other)))

    def test_an_exception_can_be_raised_with_a_text(self):
        for name in NAMES:
            with self.assertRaises(errors.CodecError):
                raise getattr(errors, name)("a text")


if __name__ == "__main__":
    unittest.main()
