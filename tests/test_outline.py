"""Promise 26: the outline of a place, and the lines that a word is found in."""

import unittest

from mastershow.changes import fill_place, lay_slide, set_text
from mastershow.errors import NoPlace, NoWord
from mastershow.lines import lines_at
from mastershow.masters import places_of
from mastershow.numbers import found_lines, number_of, outline_of
from tests.random_decks import NAMES, some_deck
from tests.things import DECK, MASTERS, STRANGE, bare, slide_with

OTHERS = STRANGE + (None, 0, 1, "", (), [], ("body",), ["body"])
NO_NAMES = OTHERS + ("Body", "body ", "1body", "abcdefghi", "bo dy", " ", "-")
NO_WORDS = (
    "two words",
    " ahead",
    "behind ",
    " ",
    "  ",
    "",
    "100%",
    "%",
    "a\\b",
    "\\",
    "a\nb",
    "\n",
    "a\tb",
    "caf\u00e9",
    "\u00a0",
    "\x7f",
    "x" * 400 + "\n",
) + tuple(thing for thing in OTHERS if not isinstance(thing, str))

LONE = (("lone", None, (("p", (), ("text",)), ("q", (), None))),)


def filled(*lines, name="s", hidden=0):
    """A slide with these lines at the place p of the master lone."""
    return bare(name, "lone", fills=(("p", lines),), hidden=hidden)


class OutlineTest(unittest.TestCase):
    def told(self, place, *expected, deck=DECK):
        self.assertEqual(outline_of(deck, place), list(expected))

    def test_a_place_that_all_slides_have(self):
        deck = (MASTERS, (bare("a"), bare("b", "mid"), bare("c", "base")))
        self.told("top", ("a", 1, "leaf top"), ("b", 2, "base top"), ("c", 3, "base top"), deck=deck)

    def test_a_place_that_some_slides_have(self):
        self.told("body", ("one", 1, "1 of 3"), ("three", 2, ""), ("four", 3, "one"))
        self.told("alone", ("one", 1, ""), ("three", 2, ""), ("four", 3, ""))

    def test_a_place_that_no_slide_has(self):
        for place in ("none", "void", "a", "abcdefgh"):
            self.told(place, ("one", 1, ""), ("three", 2, ""), ("four", 3, ""))

    def test_a_place_without_lines(self):
        deck = (LONE, (bare("a", "lone"),))
        self.told("q", ("a", 1, ""), deck=deck)

    def test_a_master_whose_text_is_lines_of_none(self):
        self.told("note", ("one", 1, ""), ("three", 2, ""), ("four", 3, ""))
        self.told("p", ("a", 1, ""), deck=set_text((LONE, (bare("a", "lone"),)), "lone", "p", ()))

    def test_a_fill_of_none_over_a_masters_lines(self):
        self.told("p", ("a", 1, "text"), deck=(LONE, (bare("a", "lone"),)))
        self.told("p", ("s", 1, ""), deck=(LONE, (filled(),)))

    def test_a_fill_that_strays(self):
        self.told("lost", ("one", 1, ""), ("three", 2, ""), ("four", 3, ""))
        there = (MASTERS, (bare("a", "other", fills=(("body", ("stray",)),)),))
        self.told("body", ("a", 1, ""), deck=there)
        self.told("body", ("a", 1, "stray"), deck=lay_slide(there, "a", "base"))

    def test_a_title_is_the_first_line_alone(self):
        self.told("p", ("s", 1, "first"), deck=(LONE, (filled("first", "second"),)))

    def test_an_empty_first_line(self):
        self.told("p", ("s", 1, ""), deck=(LONE, (filled("", "second"),)))
        self.told("p", ("s", 1, "  "), deck=(LONE, (filled("  ", "second"),)))

    def test_a_title_stands_as_it_is(self):
        self.told("p", ("s", 1, " two  blanks "), deck=(LONE, (filled(" two  blanks "),)))

    def test_a_title_with_fields(self):
        slides = (filled("{n} of {all}: {name}", name="a"), bare("b", "lone", hidden=1), filled("{n}", name="c"))
        self.told("p", ("a", 1, "1 of 2: a"), ("c", 2, "2"), deck=(LONE, slides))

    def test_hidden_slides_are_left_out(self):
        slides = [filled("line", name=f"s{k}", hidden=k % 2) for k in range(5)]
        self.told("p", ("s0", 1, "line"), ("s2", 2, "line"), ("s4", 3, "line"), deck=(LONE, tuple(slides)))
        self.told("p", deck=(LONE, (filled("line", hidden=1),)))

    def test_no_slides(self):
        self.told("p", deck=(LONE, ()))

    def test_forty_slides(self):
        slides = tuple(filled(f"line {k}", name=f"s{k}") for k in range(40))
        self.told("p", *[(f"s{k}", k + 1, f"line {k}") for k in range(40)], deck=(LONE, slides))

    def test_the_order_of_the_slides(self):
        masters, slides = DECK
        turned = (masters, slides[::-1])
        self.told("foot", ("four", 1, "mid foot"), ("three", 2, ""), ("one", 3, "mid foot"), deck=turned)

    def test_no_place(self):
        for thing in NO_NAMES:
            with self.subTest(kind=str(type(thing))):
                self.assertRaises(NoPlace, outline_of, DECK, thing)
                self.assertRaises(NoPlace, outline_of, (MASTERS, ()), thing)

    def test_the_list_is_the_askers_own(self):
        told = outline_of(DECK, "body")
        self.assertEqual({type(row) for row in told}, {tuple})
        told.clear()
        self.told("body", ("one", 1, "1 of 3"), ("three", 2, ""), ("four", 3, "one"))

    def test_decks_made_by_chance(self):
        for number in range(40):
            deck, _ = some_deck(number)
            for place in NAMES:
                expected = []
                for slide in deck[1]:
                    if slide[6] == 0:
                        there = place in places_of(deck[0], slide[1])
                        lines = lines_at(deck, slide[0], place) if there else ()
                        expected.append((slide[0], number_of(deck, slide[0]), (lines + ("",))[0]))
                self.told(place, *expected, deck=deck)


class FoundTest(unittest.TestCase):
    def told(self, word, *expected, deck=DECK):
        self.assertEqual(found_lines(deck, word), list(expected))

    def found(self, word, *lines):
        """The numbers of those of these lines that the word is found in."""
        told = found_lines((LONE, (filled(*lines),)), word)
        self.assertEqual({row[:2] for row in told} - {("s", "p")}, set())
        return [number for _, _, number in told]

    def test_a_word_that_stands_alone(self):
        self.assertEqual(self.found("word", "word"), [0])
        self.assertEqual(self.found("word", "a word", "word b", "a word b", "none"), [0, 1, 2])

    def test_between_several_blanks(self):
        self.assertEqual(self.found("word", "  word", "a   word  ", "word "), [0, 1, 2])

    def test_twice_in_a_line(self):
        self.assertEqual(self.found("word", "word word", "word and word"), [0, 1])

    def test_as_a_part_of_a_longer_word(self):
        self.assertEqual(self.found("word", "words", "sword", "a-word", "wo rd"), [])

    def test_with_a_stop_behind_it(self):
        self.assertEqual(self.found("word", "word.", "a word, b", "(word)"), [])
        self.assertEqual(self.found("word.", "word.", "a word", "a word. b"), [0, 2])

    def test_in_great_letters(self):
        self.assertEqual(self.found("word", "Word", "WORD"), [])
        self.assertEqual(self.found("WORD", "Word", "WORD"), [1])

    def test_made_by_a_field(self):
        self.assertEqual(self.found("1", "{n}", "{n} of {all}", "{all}", "{n}st", "{n"), [0, 1, 2])
        self.assertEqual(self.found("s", "{name}", "the {name}s", "{ name }"), [0])
        self.assertEqual(self.found("{n}", "{n}", "{{n}}"), [])
        self.assertEqual(self.found("{1}", "{n}", "{{n}}"), [1])
        self.assertEqual(self.found("1st", "the {n}st"), [0])

    def test_made_by_a_field_of_a_hidden_slide(self):
        deck = (LONE, (filled("{n} of {all}", hidden=1),))
        self.told("-", ("s", "p", 0), deck=deck)
        self.told("0", ("s", "p", 0), deck=deck)
        self.told("1", deck=deck)

    def test_signs_of_all_kinds(self):
        for word in ("!", "~", "-", "{", "|", "a.b,c;d", "'\"", "<>", "x" * 60):
            self.assertEqual(self.found(word, word, f"a{word}"[:60]), [0])

    def test_a_word_longer_than_a_line(self):
        self.told("x" * 61)
        self.told("x" * 5000)
        name = "abcdefgh"
        deck = (LONE, (filled("{name}" * 10, name=name),))
        self.told(name * 10, (name, "p", 0), deck=deck)

    def test_hidden_slides_too(self):
        self.told("one", ("two", "body", 0), ("four", "body", 0))
        self.told("base", ("two", "top", 0), ("two", "note", 0), ("four", "top", 0))

    def test_the_order_of_slides_of_places_and_of_lines(self):
        slide = bare("s", "lone", fills=(("p", ("a", "b", "a c", "a")), ("q", ("a", "d", "a"))))
        other = slide_with(slide, name="o")
        rows = [("p", 0), ("p", 2), ("p", 3), ("q", 0), ("q", 2)]
        deck = (LONE, (slide, other))
        self.told("a", *[("s", *row) for row in rows], *[("o", *row) for row in rows], deck=deck)
        turned = ((("lone", None, LONE[0][2][::-1]),), (slide,))
        self.told("a", *[("s", *row) for row in rows[3:] + rows[:3]], deck=turned)

    def test_a_masters_lines(self):
        self.told("foot", ("one", "foot", 0), ("four", "foot", 0))
        self.told("leaf", ("one", "top", 0))

    def test_a_fill_over_a_masters_lines(self):
        self.told("alone")
        deck = fill_place(DECK, "four", "body", ("x",))
        self.told("one", ("two", "body", 0), deck=deck)

    def test_a_fill_that_strays(self):
        self.told("lost")

    def test_a_word_that_is_not_there(self):
        self.told("none")
        self.told("a", deck=(LONE, ()))

    def test_no_word(self):
        for thing in NO_WORDS:
            with self.subTest(kind=str(type(thing))):
                self.assertRaises(NoWord, found_lines, DECK, thing)
                self.assertRaises(NoWord, found_lines, (LONE, ()), thing)

    def test_the_list_is_the_askers_own(self):
        told = found_lines(DECK, "one")
        self.assertEqual({type(row) for row in told}, {tuple})
        told.clear()
        self.told("one", ("two", "body", 0), ("four", "body", 0))

    def test_decks_made_by_chance(self):
        for number in range(30):
            deck, _ = some_deck(number)
            for word in ("one", "words", "of", "within", "1", "{n}", "s0", "3:", "-"):
                expected = []
                for slide in deck[1]:
                    for place in places_of(deck[0], slide[1]):
                        for k, line in enumerate(lines_at(deck, slide[0], place)):
                            if f" {word} " in f" {line} ":
                                expected.append((slide[0], place, k))
                self.told(word, *expected, deck=deck)
