"""The refusals, as the interface lists them."""

import unittest

from mastershow import errors

REFUSALS = (
    "NoDeck NoMaster NoSlide NoPlace NoTrait NoWorth NoSetting NoName Taken TooMany Ring Used NoRoom"
    " NoSteps NoPress NoTime NoShow NoLink NoNumber NoWord NoDeed NoText NoRow"
).split()


class ErrorsTest(unittest.TestCase):
    def test_deck_error_stands_straight_under_value_error(self):
        self.assertEqual(errors.DeckError.__bases__, (ValueError,))

    def test_each_refusal_stands_straight_under_deck_error(self):
        for name in REFUSALS:
            with self.subTest(name):
                self.assertEqual(getattr(errors, name).__bases__, (errors.DeckError,))

    def test_refusals_are_unlike(self):
        self.assertEqual(len({getattr(errors, name) for name in REFUSALS}), 23)

    def test_each_refusal_can_be_raised_with_a_message(self):
        for name in REFUSALS:
            if name != "NoText":
                with self.subTest(name), self.assertRaisesRegex(getattr(errors, name), "why"):
                    raise getattr(errors, name)("why")

    def test_no_text_is_made_of_its_row(self):
        for row in (None, 1, 27):
            with self.subTest(row):
                self.assertEqual(errors.NoText(row).row, row)
                self.assertIsInstance(str(errors.NoText(row)), str)
