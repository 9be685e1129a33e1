"""The error classes of the interface."""

import unittest

from treehands import errors

NAMES = (
    "NoBook", "NoTree", "NoPlace", "NoReader", "Unlike", "TooGreat", "NoGuesser",
    "NoPattern", "NoNumber", "NoTurner", "NoText", "NoLine", "NoName", "Nothing",
)


class ErrorsTest(unittest.TestCase):
    def test_hand_error_stands_straight_under_value_error(self):
        self.assertEqual(errors.HandError.__bases__, (ValueError,))

    def test_each_refusal_stands_straight_under_hand_error(self):
        for name in NAMES:
            with self.subTest(name=name):
                self.assertEqual(getattr(errors, name).__bases__, (errors.HandError,))

    def test_no_two_refusals_are_one_class(self):
        self.assertEqual(len({getattr(errors, name) for name in NAMES}), len(NAMES))


if __name__ == "__main__":
    unittest.main()
