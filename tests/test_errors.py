import unittest

from risecount import errors
from tests.helper import REFUSALS


class ErrorsTest(unittest.TestCase):
    def test_base_is_a_value_error(self):
        self.assertEqual(errors.RiseError.__bases__, (ValueError,))

    def test_each_refusal_stands_straight_under_the_base(self):
        self.assertEqual(len(REFUSALS), 13)
        for name in REFUSALS:
            self.assertEqual(getattr(errors, name).__bases__, (errors.RiseError,), name)
            self.assertEqual(getattr(errors, name).__name__, name)

    def test_refusals_are_thirteen_unlike_classes(self):
        self.assertEqual(len({getattr(errors, name) for name in REFUSALS}), 13)

    def test_each_can_be_raised_and_taken_as_the_base(self):
        for name in REFUSALS:
            with self.assertRaises(errors.RiseError):
                raise getattr(errors, name)("words")


if __name__ == "__main__":
    unittest.main()
