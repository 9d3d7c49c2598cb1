import unittest

from arrowhall import errors
from arrowhall.errors import ArrowError

NAMES = ["NoHall", "NoArrow", "NoBox", "NoPicture", "NoReading", "NoThing", "NoSending"]


class Errors(unittest.TestCase):
    def test_arrow_error_stands_straight_under_value_error(self):
        self.assertEqual(ArrowError.__bases__, (ValueError,))

    def test_seven_stand_straight_under_arrow_error(self):
        for name in NAMES:
            with self.subTest(name):
                self.assertEqual(getattr(errors, name).__name__, name)
                self.assertEqual(getattr(errors, name).__bases__, (ArrowError,))

    def test_they_are_seven_classes(self):
        self.assertEqual(len({getattr(errors, name) for name in NAMES}), 7)

    def test_each_is_raised_and_taken_as_a_refusal(self):
        for name in NAMES:
            with self.subTest(name), self.assertRaises(ArrowError):
                raise getattr(errors, name)("none")


if __name__ == "__main__":
    unittest.main()
