"""The refusals of errandend.errors."""

import unittest

from errandend import errors
from errandend.errors import Apart, BadText, ErrandError, NoSuch, NoWay, TooMany, Twice, WrongCount

REFUSALS = [BadText, Twice, NoSuch, WrongCount, Apart, TooMany, NoWay]


class TestErrors(unittest.TestCase):
    def test_errand_error_is_a_value_error(self):
        self.assertTrue(issubclass(ErrandError, ValueError))
        self.assertEqual(ErrandError.__bases__, (ValueError,))

    def test_each_refusal_stands_straight_under_errand_error(self):
        for refusal in REFUSALS:
            with self.subTest(refusal.__name__):
                self.assertEqual(refusal.__bases__, (ErrandError,))

    def test_no_refusal_is_another_one(self):
        for one in REFUSALS:
            for other in REFUSALS:
                with self.subTest(f"{one.__name__}, {other.__name__}"):
                    self.assertEqual(issubclass(one, other), one is other)

    def test_each_class_bears_the_name_it_is_found_under(self):
        names = ["BadText", "Twice", "NoSuch", "WrongCount", "Apart", "TooMany", "NoWay"]
        self.assertEqual([refusal.__name__ for refusal in REFUSALS], names)
        for name in names:
            self.assertEqual(getattr(errors, name).__name__, name)

    def test_each_refusal_can_be_raised_with_words_and_taken_as_any_refusal(self):
        for refusal in REFUSALS:
            with self.subTest(refusal.__name__):
                with self.assertRaises(ErrandError) as taken:
                    raise refusal("some words")
                self.assertEqual(str(taken.exception), "some words")


if __name__ == "__main__":
    unittest.main()
