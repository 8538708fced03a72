"""Promise 27: the notes of the slides, and their pages."""

import unittest

from mastershow.errors import NoRoom, NoSlide
from mastershow.lines import rows_of
from mastershow.notes import notes_of, notes_pages
from tests.things import DECK, MASTERS, STRANGE, bare

OTHERS = STRANGE + (None, "", (), [], ("one",), ["one"])
NO_SLIDES = OTHERS + (0, 1, "five", "One", "one ", "on", "ones", "leaf", "body")
NO_LENGTHS = tuple(thing for thing in OTHERS if thing is True or not isinstance(thing, int)) + (
    False,
    0,
    -1,
    -(10**5000),
    "1",
    "five",
    (1,),
    [1],
)

FIVE = "one two three four five"


def noted(*notes, hidden=0):
    """A deck of slides s0, s1 and so on with these notes."""
    return (MASTERS, tuple(bare(f"s{k}", notes=one, hidden=hidden) for k, one in enumerate(notes)))


class NotesOfTest(unittest.TestCase):
    def test_of_the_deck_of_the_tests(self):
        self.assertEqual(notes_of(DECK), [("one", "Notes of the first slide."), ("three", "x" * 200)])

    def test_no_notes(self):
        self.assertEqual(notes_of(noted("", "")), [])
        self.assertEqual(notes_of(noted("", "a", "")), [("s1", "a")])
        self.assertEqual(notes_of((MASTERS, ())), [])

    def test_notes_of_blanks_alone(self):
        self.assertEqual(notes_of(noted(" ", "", "   ")), [("s0", " "), ("s2", "   ")])

    def test_notes_of_two_hundred_signs(self):
        self.assertEqual(notes_of(noted("y" * 200)), [("s0", "y" * 200)])

    def test_hidden_slides(self):
        self.assertEqual(notes_of(noted("a", "", "b", hidden=1)), [("s0", "a"), ("s2", "b")])

    def test_they_stand_as_they_are(self):
        for notes in (" a  b ", "{n} of {all}", "| x", "~"):
            self.assertEqual(notes_of(noted(notes)), [("s0", notes)])

    def test_the_decks_order(self):
        masters, slides = DECK
        self.assertEqual([name for name, _ in notes_of((masters, slides[::-1]))], ["three", "one"])

    def test_forty_slides(self):
        self.assertEqual(notes_of(noted(*"a" * 40)), [(f"s{k}", "a") for k in range(40)])

    def test_the_list_is_the_askers_own(self):
        told = notes_of(DECK)
        self.assertEqual({type(row) for row in told}, {tuple})
        told.clear()
        self.assertEqual(len(notes_of(DECK)), 2)


class NotesPagesTest(unittest.TestCase):
    def told(self, notes, wide, high, *pages):
        self.assertEqual(notes_pages(noted(notes), "s0", wide, high), list(pages))

    def test_rows_and_pages(self):
        self.told(FIVE, 9, 2, ["one two", "three"], ["four five"])
        self.told(FIVE, 9, 1, ["one two"], ["three"], ["four five"])
        self.told(FIVE, 9, 3, ["one two", "three", "four five"])

    def test_pages_just_full_one_more_and_one_fewer(self):
        self.told(FIVE, 5, 5, ["one", "two", "three", "four", "five"])
        self.told(FIVE, 5, 4, ["one", "two", "three", "four"], ["five"])
        self.told(FIVE, 5, 6, ["one", "two", "three", "four", "five"])
        self.told("a b c d", 1, 2, ["a", "b"], ["c", "d"])
        self.told("a b c d e", 1, 2, ["a", "b"], ["c", "d"], ["e"])
        self.told("a b c", 1, 2, ["a", "b"], ["c"])

    def test_rows_just_full_one_more_and_one_fewer(self):
        self.told("one two", 7, 9, ["one two"])
        self.told("one two", 6, 9, ["one", "two"])
        self.told("one two", 8, 9, ["one two"])

    def test_a_wide_of_one(self):
        self.told("abc de", 1, 2, ["a", "b"], ["c", "d"], ["e"])

    def test_a_high_of_one(self):
        self.told("abc de", 3, 1, ["abc"], ["de"])

    def test_a_high_beyond_all_rows(self):
        for high in (5, 10**30, 10**5000):
            self.told(FIVE, 5, high, ["one", "two", "three", "four", "five"])

    def test_a_wide_beyond_all_signs(self):
        for wide in (23, 200, 10**30, 10**5000):
            self.told(FIVE, wide, 1, [FIVE])

    def test_no_notes(self):
        self.told("", 5, 5)
        self.told("", 1, 1)

    def test_notes_of_blanks_alone(self):
        self.told(" ", 5, 5)
        self.told(" " * 200, 1, 1)

    def test_blanks_ahead_behind_and_between(self):
        self.told("  one   two ", 9, 1, ["one two"])

    def test_notes_of_two_hundred_signs(self):
        self.told("x" * 200, 50, 3, ["x" * 50] * 3, ["x" * 50])
        self.told("x" * 200, 1, 200, ["x"] * 200)
        self.told("x" * 200, 1, 199, ["x"] * 199, ["x"])

    def test_no_field_is_put_in(self):
        self.told("{n} of {all}", 99, 1, ["{n} of {all}"])

    def test_hidden_slides(self):
        self.assertEqual(notes_pages(noted("a b", hidden=1), "s0", 1, 1), [["a"], ["b"]])

    def test_the_slide_that_is_asked_of(self):
        deck = noted("a", "b", "c")
        self.assertEqual([notes_pages(deck, f"s{k}", 1, 1) for k in range(3)], [[["a"]], [["b"]], [["c"]]])

    def test_as_the_rows_of_the_notes(self):
        notes = "Some words, a-word-that-is-rather-long-for-a-row, and  more words behind it."
        for wide in range(1, 80):
            rows = rows_of((notes,), wide)
            for high in (1, 2, 3, 7, len(rows), len(rows) + 1):
                pages = notes_pages(noted(notes), "s0", wide, high)
                self.assertEqual([row for page in pages for row in page], rows)
                self.assertEqual({len(page) for page in pages[:-1]} - {high}, set())
                self.assertTrue(1 <= len(pages[-1]) <= high)

    def test_the_lists_are_the_askers_own(self):
        deck = noted("a b c")
        told = notes_pages(deck, "s0", 1, 2)
        self.assertEqual(type(told), list)
        self.assertEqual({type(page) for page in told}, {list})
        told[0].clear()
        told.pop()
        self.assertEqual(notes_pages(deck, "s0", 1, 2), [["a", "b"], ["c"]])


class RefusalTest(unittest.TestCase):
    def test_no_slide(self):
        for thing in NO_SLIDES:
            with self.subTest(kind=str(type(thing))):
                self.assertRaises(NoSlide, notes_pages, DECK, thing, 1, 1)
        self.assertRaises(NoSlide, notes_pages, (MASTERS, ()), "one", 1, 1)

    def test_no_room_of_wide_of_high_and_of_both(self):
        for slide in ("one", "two"):
            for thing in NO_LENGTHS:
                with self.subTest(kind=str(type(thing))):
                    self.assertRaises(NoRoom, notes_pages, DECK, slide, thing, 1)
                    self.assertRaises(NoRoom, notes_pages, DECK, slide, 1, thing)
                    self.assertRaises(NoRoom, notes_pages, DECK, slide, thing, thing)

    def test_no_slide_and_no_room_due(self):
        for thing in NO_LENGTHS:
            with self.subTest(kind=str(type(thing))):
                self.assertRaises(NoSlide, notes_pages, DECK, "none", thing, 1)
                self.assertRaises(NoSlide, notes_pages, DECK, "none", 1, thing)
                self.assertRaises(NoSlide, notes_pages, DECK, thing, thing, thing)
