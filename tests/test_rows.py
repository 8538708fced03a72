"""Promises 17 and 18: lines parted in rows, what fits, and the greatest size by which it does."""

import random
import unittest

from mastershow.errors import NoPlace, NoRoom, NoSlide
from mastershow.lines import laid_at, lines_at, rows_of, shrunk_to
from mastershow.masters import places_of
from mastershow.worths import worth_at
from tests.random_decks import some_deck
from tests.things import DECK, STRANGE, bare

OTHERS = STRANGE + (None, "", (), [], ("one",), ["one"])
NO_WIDE = tuple(thing for thing in STRANGE if thing is True or not isinstance(thing, int)) + (
    0,
    -1,
    -40,
    False,
    None,
    "",
    "4",
    (),
    (4,),
    [],
    [4],
)


class RowsTest(unittest.TestCase):
    def rows(self, line, wide, *expected):
        self.assertEqual(rows_of((line,), wide), list(expected))

    def test_words_in_rows(self):
        self.rows("one two three", 13, "one two three")
        self.rows("one two three", 12, "one two", "three")
        self.rows("one two three", 7, "one two", "three")
        self.rows("one two three", 6, "one", "two", "three")

    def test_a_word_just_as_long_as_a_row(self):
        self.rows("abcd", 4, "abcd")
        self.rows("abcd ef", 4, "abcd", "ef")
        self.rows("ef abcd", 4, "ef", "abcd")
        self.rows("abcd abcd", 4, "abcd", "abcd")

    def test_a_word_one_sign_longer(self):
        self.rows("abcde", 4, "abcd", "e")
        self.rows("abcde f", 4, "abcd", "e f")
        self.rows("f abcde", 4, "f", "abcd", "e")

    def test_a_word_one_sign_shorter(self):
        self.rows("abc", 4, "abc")
        self.rows("abc d", 4, "abc", "d")
        self.rows("a bc", 4, "a bc")
        self.rows("ab c", 4, "ab c")
        self.rows("ab cd", 4, "ab", "cd")

    def test_blanks_ahead_behind_and_several_between(self):
        self.rows("  ab", 4, "ab")
        self.rows("ab  ", 4, "ab")
        self.rows("   a    b   ", 4, "a b")
        self.rows("   ab    cd   ", 4, "ab", "cd")

    def test_a_word_longer_than_several_rows(self):
        self.rows("abcdefghij", 4, "abcd", "efgh", "ij")
        self.rows("abcdefgh", 4, "abcd", "efgh")
        self.rows("abcdefgh i", 4, "abcd", "efgh", "i")
        self.rows("abcdefghi", 4, "abcd", "efgh", "i")

    def test_a_long_word_with_others_ahead_and_behind_it(self):
        self.rows("x abcdefghij y z", 4, "x", "abcd", "efgh", "ij y", "z")
        self.rows("x y abcdef gh i", 4, "x y", "abcd", "ef", "gh i")
        self.rows("abcde fghij", 4, "abcd", "e", "fghi", "j")
        self.rows("xx abcdef", 4, "xx", "abcd", "ef")
        self.rows("abcdef", 5, "abcde", "f")

    def test_a_line_without_words(self):
        self.rows("", 4, "")
        self.rows(" ", 4, "")
        self.rows(" " * 60, 4, "")
        self.rows("", 1, "")
        self.rows("    ", 4, "")

    def test_several_lines(self):
        self.assertEqual(rows_of(("one two", "", "three"), 5), ["one", "two", "", "three"])
        self.assertEqual(rows_of(("", " ", ""), 5), ["", "", ""])
        self.assertEqual(rows_of(("a", "b"), 40), ["a", "b"])
        self.assertEqual(rows_of((), 40), [])
        self.assertEqual(rows_of([], 40), [])

    def test_lines_as_a_list_and_as_a_tuple(self):
        lines = ("one two three", "", "  four ", "abcdefghijkl")
        self.assertEqual(rows_of(list(lines), 6), rows_of(lines, 6))
        self.assertEqual(rows_of(list(lines), 6), ["one", "two", "three", "", "four", "abcdef", "ghijkl"])

    def test_wide_of_one(self):
        self.rows("ab c", 1, "a", "b", "c")
        self.rows("a b c", 1, "a", "b", "c")
        self.rows("abc", 1, "a", "b", "c")

    def test_a_great_wide(self):
        self.rows("x" * 400, 10**5000, "x" * 400)
        self.rows("x " * 200, 400, ("x " * 200)[:-1])
        self.rows("x" * 400, 399, "x" * 399, "x")

    def test_lines_of_more_than_sixty_signs(self):
        self.assertEqual(rows_of(("x" * 400,) * 12, 100), ["x" * 100] * 48)

    def test_no_room(self):
        for wide in NO_WIDE:
            with self.subTest(kind=str(type(wide))):
                self.assertRaises(NoRoom, rows_of, ("a line",), wide)
                self.assertRaises(NoRoom, rows_of, (), wide)

    def test_the_list_is_the_askers_own(self):
        lines = ["one two", "three"]
        told = rows_of(lines, 5)
        self.assertIs(type(told), list)
        told.clear()
        self.assertEqual(rows_of(lines, 5), ["one", "two", "three"])
        self.assertEqual(lines, ["one two", "three"])

    def test_no_word_is_lost_and_each_row_takes_as_many_as_it_can(self):
        chance = random.Random(17)
        for _ in range(400):
            line = "".join(chance.choice("ab  c") for _ in range(chance.randint(0, 40)))
            wide = chance.randint(1, 9)
            rows = rows_of((line,), wide)
            words = [word for word in line.split(" ") if word]
            self.assertEqual("".join(rows).replace(" ", ""), "".join(words))
            self.assertLessEqual(max(map(len, rows)), wide)
            told = [word for row in rows for word in row.split(" ") if word]
            parted = [word[at : at + wide] for word in words for at in range(0, len(word), wide)]
            self.assertEqual(told, parted)
            self.assertEqual(rows, [" ".join(row.split()) for row in rows])
            for row, following in zip(rows, rows[1:]):
                self.assertGreater(len(row) + 1 + len(following.split(" ")[0]), wide)


class ShrunkTest(unittest.TestCase):
    lines = ("one two", "three")

    def test_lines_that_fit_just(self):
        self.assertEqual(shrunk_to(self.lines, 7, 2, 1), 1)
        self.assertEqual(shrunk_to(self.lines, 14, 4, 2), 2)
        self.assertEqual(shrunk_to(self.lines, 6, 3, 1), 1)

    def test_lines_that_want_one_row_more(self):
        self.assertIsNone(shrunk_to(self.lines, 7, 1, 1))
        self.assertIsNone(shrunk_to(self.lines, 6, 2, 1))
        self.assertEqual(shrunk_to(self.lines, 14, 3, 2), 1)
        self.assertEqual(shrunk_to(self.lines, 13, 4, 2), 1)

    def test_a_size_by_which_they_fit_just_and_the_next_greater_one(self):
        self.assertEqual(shrunk_to(self.lines, 21, 6, 99), 3)
        self.assertEqual(shrunk_to(self.lines, 21, 6, 4), 3)
        self.assertEqual(shrunk_to(self.lines, 21, 6, 3), 3)
        self.assertEqual(shrunk_to(self.lines, 21, 6, 2), 2)
        self.assertEqual(shrunk_to(self.lines, 27, 11, 99), 3)

    def test_no_more_than_the_size(self):
        self.assertEqual(shrunk_to(("a",), 999, 999, 99), 99)
        self.assertEqual(shrunk_to(("a",), 999, 999, 98), 98)
        self.assertEqual(shrunk_to(("a",), 999, 999, 1), 1)

    def test_a_size_that_leaves_no_sign_in_a_row(self):
        self.assertEqual(shrunk_to(("a",), 5, 999, 99), 5)
        self.assertEqual(shrunk_to((), 5, 999, 99), 5)
        self.assertEqual(shrunk_to(("",), 5, 999, 99), 5)
        self.assertEqual(shrunk_to(("a",), 5, 999, 5), 5)

    def test_a_size_that_leaves_no_row(self):
        self.assertEqual(shrunk_to(("",), 999, 5, 99), 5)
        self.assertEqual(shrunk_to((), 999, 5, 99), 99)
        self.assertEqual(shrunk_to((), 1, 1, 99), 1)

    def test_none_fits(self):
        self.assertIsNone(shrunk_to(("a", "b"), 999, 1, 99))
        self.assertIsNone(shrunk_to(("",) * 12, 40, 11, 1))
        self.assertIsNone(shrunk_to(("ab",), 1, 1, 1))
        self.assertEqual(shrunk_to(("",) * 12, 40, 12, 1), 1)

    def fits(self, lines, wide, high, size):
        signs = wide // size
        return signs >= 1 and len(rows_of(lines, signs)) <= high // size

    def test_on_rooms_made_by_chance(self):
        chance = random.Random(18)
        for _ in range(300):
            lines = [
                "".join(chance.choice("ab  c") for _ in range(chance.randint(0, 30)))
                for _ in range(chance.randint(0, 4))
            ]
            wide, high, size = chance.randint(1, 60), chance.randint(1, 30), chance.randint(1, 12)
            fitting = [tried for tried in range(1, size + 1) if self.fits(lines, wide, high, tried)]
            self.assertEqual(shrunk_to(lines, wide, high, size), fitting[-1] if fitting else None)

    def test_each_measure_at_its_bounds_and_one_beyond(self):
        for good in ((1, 5, 5), (999, 5, 5), (5, 1, 5), (5, 999, 5), (5, 5, 1), (5, 5, 99)):
            self.assertIsInstance(shrunk_to(("a",), *good), int)
        for bad in ((0, 5, 5), (1000, 5, 5), (5, 0, 5), (5, 1000, 5), (5, 5, 0), (5, 5, 100), (-1, 5, 5), (5, -1, 5)):
            self.assertRaises(NoRoom, shrunk_to, ("a",), *bad)

    def test_measures_of_other_kinds(self):
        for thing in OTHERS + (0, -1, "5", [5], (5,)):
            with self.subTest(kind=str(type(thing))):
                self.assertRaises(NoRoom, shrunk_to, ("a",), thing, 5, 5)
                self.assertRaises(NoRoom, shrunk_to, ("a",), 5, thing, 5)
                self.assertRaises(NoRoom, shrunk_to, ("a",), 5, 5, thing)
                self.assertRaises(NoRoom, shrunk_to, (), thing, thing, thing)

    def test_lines_as_a_list(self):
        self.assertEqual(shrunk_to(["one two", "three"], 21, 6, 99), 3)


class LaidTest(unittest.TestCase):
    def test_places_with_lines(self):
        self.assertEqual(laid_at(DECK, "one", "top"), (2, ["leaf top", ""]))
        self.assertEqual(laid_at(DECK, "two", "top"), (1, ["bas", "e", "top"]))
        self.assertEqual(laid_at(DECK, "four", "foot"), (2, ["mid foot"]))
        self.assertEqual(laid_at(DECK, "one", "foot"), (3, ["mid foot"]))

    def test_fields_are_put_in_ahead(self):
        self.assertEqual(laid_at(DECK, "one", "body"), (3, ["1 of 3", "", "third"]))

    def test_places_without_lines(self):
        self.assertEqual(laid_at(DECK, "one", "note"), (1, []))
        self.assertEqual(laid_at(DECK, "three", "alone"), (1, []))

    def test_a_place_whose_lines_do_not_fit(self):
        deck = ((("m", None, (("p", (("wide", 3), ("high", 2)), ("a b c d",)),)),), (bare("s", "m"),))
        self.assertEqual(laid_at(deck, "s", "p"), (1, ["a b", "c d"]))
        deck = ((("m", None, (("p", (("wide", 2), ("high", 2)), ("a b c d",)),)),), (bare("s", "m"),))
        self.assertIsNone(laid_at(deck, "s", "p"))

    def test_by_its_worths_and_lines(self):
        for number in range(40):
            deck, _ = some_deck(number)
            for slide in deck[1]:
                for place in places_of(deck[0], slide[1]):
                    lines = lines_at(deck, slide[0], place)
                    measures = [worth_at(deck, slide[0], place, trait)[0] for trait in ("wide", "high", "size")]
                    size = shrunk_to(lines, *measures)
                    laid = laid_at(deck, slide[0], place)
                    if size is None:
                        self.assertIsNone(laid)
                    else:
                        self.assertEqual(laid, (size, rows_of(lines, measures[0] // size)))
                        self.assertLessEqual(len(laid[1]), measures[1] // size)

    def test_it_is_a_tuple_with_a_list(self):
        told = laid_at(DECK, "one", "top")
        self.assertIs(type(told), tuple)
        self.assertIs(type(told[1]), list)
        told[1].clear()
        self.assertEqual(laid_at(DECK, "one", "top"), (2, ["leaf top", ""]))

    def test_no_slide_alone(self):
        for slide in OTHERS + (0, 1, "five", "One", "leaf", "body"):
            with self.subTest(kind=str(type(slide))):
                self.assertRaises(NoSlide, laid_at, DECK, slide, "body")

    def test_no_place_alone(self):
        for place in OTHERS + (0, 1, "none", "Body", "alone", "lost"):
            with self.subTest(kind=str(type(place))):
                self.assertRaises(NoPlace, laid_at, DECK, "one", place)

    def test_both_due(self):
        for thing in OTHERS + (0, 1, "none"):
            with self.subTest(kind=str(type(thing))):
                self.assertRaises(NoSlide, laid_at, DECK, thing, thing)
