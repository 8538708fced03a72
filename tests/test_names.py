"""Promise 4: names, traits, worths, lines; with promises 2 and 10 where they touch these."""

import unittest

from mastershow.errors import NoTrait
from mastershow.names import TRAITS, is_lines, is_name, is_worth
from tests.things import STRANGE

BOUNDS = {"left": (-999, 999), "top": (-999, 999), "wide": (1, 999), "high": (1, 999), "size": (1, 99)}

# Things that are never a number, nor a name.
NO_WORTHS = STRANGE + (None, "", "1", "-5", "0", (), (1,), [1], ("a",), [1, (2, [3])])

ALL_SIGNS = "".join(chr(code) for code in range(32, 127) if chr(code) not in "%\\")


class NameTest(unittest.TestCase):
    def test_names_of_one_to_eight_signs(self):
        for name in ("a", "z", "ab", "a0", "z9", "plain", "a1b2c3d4", "abcdefgh", "nopqrstu", "vwxyz012", "k3456789"):
            with self.subTest(name):
                self.assertIs(is_name(name), True)

    def test_no_signs_and_nine_signs_are_no_name(self):
        for text in ("", "abcdefghi", "a23456789", "a" * 1000):
            with self.subTest(text):
                self.assertIs(is_name(text), False)

    def test_the_first_sign_is_a_small_letter(self):
        for text in ("1", "0a", "9lives", "A", "Z", "Ab", "_a", "-a", " a"):
            with self.subTest(text):
                self.assertIs(is_name(text), False)

    def test_no_sign_but_letters_and_figures(self):
        for code in list(range(0, 256)) + [0x660, 0xB2, 0x3B1, 0xFF41, 0xD800, 0x1F600]:
            good = "0" <= chr(code) <= "9" or "a" <= chr(code) <= "z"
            with self.subTest(code):
                self.assertIs(is_name("a" + chr(code)), good)
                self.assertIs(is_name("a" + chr(code) + "b"), good)

    def test_a_line_feed_at_the_end_is_no_name(self):
        for text in ("a\n", "\na", "\n", "abcdefg\n", "abcdefgh\n"):
            with self.subTest(text):
                self.assertIs(is_name(text), False)

    def test_other_things_are_no_name(self):
        for thing in STRANGE + (None, 0, 1, -1, (), ("a",), ("a", "b"), ["a", "b"], b"abc"):
            with self.subTest(thing=str(type(thing))):
                self.assertIs(is_name(thing), False)


class TraitTest(unittest.TestCase):
    def test_traits_in_order(self):
        self.assertEqual(TRAITS, ("left", "top", "wide", "high", "size", "ink"))
        self.assertIsInstance(TRAITS, tuple)

    def test_no_trait_whatever_it_is_and_whatever_the_worth(self):
        for trait in STRANGE + (None, 0, 1, "", "Left", "left ", "inks", "lef", "color", (), TRAITS, ["left"], ("ink",)):
            for worth in (0, 1, "plain", None, True, [], "left", object()):
                with self.subTest(trait=str(type(trait)), worth=worth):
                    self.assertRaises(NoTrait, is_worth, trait, worth)


class WorthTest(unittest.TestCase):
    def test_worths_within_their_bounds(self):
        for trait, (low, high) in BOUNDS.items():
            for worth in (low, low + 1, 1, 2, 50, high - 1, high):
                with self.subTest(trait=trait, worth=worth):
                    self.assertIs(is_worth(trait, worth), True)

    def test_nought_and_less_only_for_left_and_top(self):
        for trait in TRAITS:
            for worth in (0, -1, -999):
                with self.subTest(trait=trait, worth=worth):
                    self.assertIs(is_worth(trait, worth), trait in ("left", "top"))

    def test_worths_beyond_their_bounds(self):
        for trait, (low, high) in BOUNDS.items():
            for worth in (low - 1, high + 1, -(10**30), 10**30):
                with self.subTest(trait=trait, worth=worth):
                    self.assertIs(is_worth(trait, worth), False)

    def test_true_and_false_are_no_worth(self):
        for trait in TRAITS:
            self.assertIs(is_worth(trait, True), False)
            self.assertIs(is_worth(trait, False), False)

    def test_other_things_are_no_worth(self):
        for trait in TRAITS:
            for thing in NO_WORTHS:
                with self.subTest(trait=trait, thing=str(type(thing))):
                    self.assertIs(is_worth(trait, thing), False)

    def test_ink_is_a_name(self):
        for worth in ("a", "plain", "ink", "abcdefgh", "r2d2"):
            self.assertIs(is_worth("ink", worth), True)
        for worth in ("", "abcdefghi", "2red", "Red", "red\n", "dark red", 0, 1, 40):
            self.assertIs(is_worth("ink", worth), False)

    def test_names_are_no_worth_of_other_traits(self):
        for trait in BOUNDS:
            self.assertIs(is_worth(trait, "plain"), False)


class LinesTest(unittest.TestCase):
    def test_lines(self):
        for lines in ((), ("",), (" ",), ("one", "two"), ("{n} of {all}",), ("- | ~",)):
            with self.subTest(lines):
                self.assertIs(is_lines(lines), True)

    def test_twelve_and_thirteen(self):
        self.assertIs(is_lines(("",) * 12), True)
        self.assertIs(is_lines(("a line",) * 12), True)
        self.assertIs(is_lines(("",) * 13), False)
        self.assertIs(is_lines(("a line",) * 13), False)

    def test_sixty_and_sixty_one_signs(self):
        self.assertIs(is_lines(("x" * 60,)), True)
        self.assertIs(is_lines((" " * 60,) * 12), True)
        self.assertIs(is_lines(("x" * 61,)), False)
        self.assertIs(is_lines((" " * 61,)), False)
        self.assertIs(is_lines(("",) * 11 + ("x" * 61,)), False)

    def test_each_sign_that_texts_have(self):
        for sign in ALL_SIGNS:
            with self.subTest(sign):
                self.assertIs(is_lines((sign,)), True)
                self.assertIs(is_lines(("a" + sign + "b",)), True)
        self.assertEqual(len(ALL_SIGNS), 93)

    def test_each_sign_that_is_barred(self):
        codes = [code for code in range(0, 300) if chr(code) not in ALL_SIGNS]
        for code in codes + [0x2028, 0xD800, 0xFF05, 0x1F600]:
            for line in (chr(code), "a" + chr(code), chr(code) + "a", "a" + chr(code) + "b"):
                with self.subTest(code):
                    self.assertIs(is_lines((line,)), False)
                    self.assertIs(is_lines(("fine", line)), False)

    def test_other_things_for_the_tuple(self):
        for thing in STRANGE + (None, 0, 1, "", "a line", ["a line"], {"a line": 1}, b"a line"):
            with self.subTest(thing=str(type(thing))):
                self.assertIs(is_lines(thing), False)

    def test_other_things_for_a_line(self):
        for thing in STRANGE + (None, 0, 1, (), ("a",), ["a"]):
            with self.subTest(thing=str(type(thing))):
                self.assertIs(is_lines((thing,)), False)
                self.assertIs(is_lines(("fine", thing)), False)
