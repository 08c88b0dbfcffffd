import unittest

from freesets import errors


class ErrorsTest(unittest.TestCase):
    def test_free_error_is_straight_under_value_error(self):
        self.assertEqual(errors.FreeError.__bases__, (ValueError,))

    def test_each_other_error_is_straight_under_free_error(self):
        for name in ("BadRule", "BadThing", "BadWeights", "NotFree", "NotWhole", "BadText"):
            with self.subTest(name=name):
                self.assertEqual(getattr(errors, name).__bases__, (errors.FreeError,))
