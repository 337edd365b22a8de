"""The refusals: interface, retryhall/errors.py."""

import unittest

from retryhall import errors
from retryhall.errors import HallError, NoBoxes, NoDeed, NoHand, NoHands, NoRow

REFUSALS = (NoDeed, NoBoxes, NoHands, NoHand, NoRow)
NAMES = ("NoDeed", "NoBoxes", "NoHands", "NoHand", "NoRow")


class ErrorsTest(unittest.TestCase):
    def test_each_class_is_there_under_its_name(self):
        for name in ("HallError",) + NAMES:
            self.assertIsInstance(getattr(errors, name), type)
            self.assertEqual(getattr(errors, name).__name__, name)

    def test_hall_error_stands_straight_under_value_error(self):
        self.assertEqual(HallError.__bases__, (ValueError,))

    def test_each_refusal_stands_straight_under_hall_error(self):
        for refusal in REFUSALS:
            self.assertEqual(refusal.__bases__, (HallError,))

    def test_no_refusal_stands_under_another(self):
        for one in REFUSALS:
            for other in REFUSALS:
                self.assertEqual(issubclass(one, other), one is other, (one, other))

    def test_each_is_raised_and_taken_by_the_classes_it_stands_under(self):
        for refusal in REFUSALS:
            for above in (refusal, HallError, ValueError):
                with self.assertRaises(above):
                    raise refusal("why")

    def test_a_refusal_is_not_taken_by_another(self):
        with self.assertRaises(NoHand):
            try:
                raise NoHand("none such")
            except (NoDeed, NoBoxes, NoHands, NoRow):
                self.fail("NoHand was taken by another class")


if __name__ == "__main__":
    unittest.main()
