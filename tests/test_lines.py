"""Promise 16: the lines at a place of a slide, with their fields put in."""

import unittest

from mastershow.changes import fill_place
from mastershow.errors import NoPlace, NoSlide
from mastershow.lines import lines_at
from tests.things import DECK, MASTERS, STRANGE, bare

OTHERS = STRANGE + (None, 0, 1, "", (), [], ("one",), ["one"])
NO_SLIDES = OTHERS + ("five", "One", "one ", "on", "ones", "leaf", "body")
NO_PLACES = OTHERS + ("none", "Body", "body ", "bod", "bodys", "leaf", "one", "alone", "gone", "lost")


class WhereFromTest(unittest.TestCase):
    def told(self, slide, place, *lines):
        self.assertEqual(lines_at(DECK, slide, place), lines)

    def test_of_a_fill(self):
        self.told("one", "body", "1 of 3", "", "third")

    def test_of_a_fill_of_none(self):
        self.told("one", "side")
        self.told("three", "alone")
        self.assertEqual(lines_at(fill_place(DECK, "one", "top", ()), "one", "top"), ())

    def test_of_the_slides_master(self):
        self.told("one", "top", "leaf top", "")
        self.told("two", "top", "base top")
        self.told("two", "body", "one", "two")

    def test_of_one_over_it(self):
        self.told("one", "foot", "mid foot")
        self.told("four", "body", "one", "two")

    def test_of_a_master_whose_text_is_lines_of_none(self):
        self.told("one", "note")
        self.told("four", "note")

    def test_of_none_at_all(self):
        deck = (MASTERS, (bare("s"),))
        self.assertEqual(lines_at(deck, "s", "side"), ())

    def test_a_fill_of_another_place_or_slide_says_nothing(self):
        deck = fill_place(fill_place(DECK, "two", "top", ("fill",)), "two", "note", ("fill",))
        self.assertEqual(lines_at(deck, "two", "body"), ("one", "two"))
        self.assertEqual(lines_at(deck, "four", "top"), ("base top",))

    def test_it_is_a_tuple_of_texts(self):
        for slide, place in (("one", "body"), ("one", "top"), ("one", "side"), ("two", "note")):
            told = lines_at(DECK, slide, place)
            self.assertIs(type(told), tuple)
            self.assertTrue(all(type(line) is str for line in told))


class FieldsTest(unittest.TestCase):
    def put(self, line, name="s", ahead=(), behind=(), hidden=0):
        """The one line at a slide of this name, with slides ahead and behind that are hidden or not."""
        others = [bare(f"o{k}", "m", hidden=other) for k, other in enumerate(ahead + behind)]
        slide = bare(name, "m", hidden=hidden, fills=(("p", (line,)),))
        deck = ((("m", None, (("p", (), None),)),), (*others[: len(ahead)], slide, *others[len(ahead) :]))
        (told,) = lines_at(deck, name, "p")
        return told

    def test_each_field_alone(self):
        self.assertEqual(self.put("{n}", ahead=(0, 0)), "3")
        self.assertEqual(self.put("{all}", ahead=(0, 0), behind=(0,)), "4")
        self.assertEqual(self.put("{name}", "title"), "title")

    def test_within_other_signs(self):
        self.assertEqual(self.put("at {n}, of {all} ({name})", "title", behind=(0,)), "at 1, of 2 (title)")

    def test_twice_in_a_line(self):
        self.assertEqual(self.put("{n} {n}"), "1 1")
        self.assertEqual(self.put("{all}-{all}-{all}"), "1-1-1")
        self.assertEqual(self.put("{name}{name}", "ab"), "abab")

    def test_beside_one_another(self):
        self.assertEqual(self.put("{n}{all}{name}", "ab", ahead=(0,), behind=(0,)), "23ab")
        self.assertEqual(self.put("{name}{n}{all}", "ab"), "ab11")

    def test_cut_short(self):
        for line in ("{n", "n}", "{", "}", "{al", "{all", "{name", "name}", "{nam}", "{al}", "{}", "}{", "{n {al"):
            with self.subTest(line):
                self.assertEqual(self.put(line), line)
        self.assertEqual(self.put("{n {n}"), "{n 1")
        self.assertEqual(self.put("{n} n}"), "1 n}")
        self.assertEqual(self.put("{n}{n"), "1{n")

    def test_other_signs_between_the_braces(self):
        for line in ("{N}", "{ n}", "{n }", "{All}", "{NAME}", "{x}", "{n,all}", "{nall}", "{nn}", "{names}", "(n)"):
            with self.subTest(line):
                self.assertEqual(self.put(line), line)

    def test_within_one_another(self):
        self.assertEqual(self.put("{{n}}"), "{1}")
        self.assertEqual(self.put("{n{n}}"), "{n1}")
        self.assertEqual(self.put("{{{n}}}"), "{{1}}")
        self.assertEqual(self.put("{na{n}me}"), "{na1me}")
        self.assertEqual(self.put("{a{name}l}", "l"), "{all}")

    def test_what_is_put_in_is_not_looked_at_again(self):
        self.assertEqual(self.put("{{name}}", "n"), "{n}")
        self.assertEqual(self.put("{{name}}", "all"), "{all}")
        self.assertEqual(self.put("{{name}}", "name"), "{name}")
        self.assertEqual(self.put("{{name}} {n} {all}", "n"), "{n} 1 1")
        self.assertEqual(self.put("{{name}{name}}", "n"), "{nn}")

    def test_a_hidden_slide(self):
        self.assertEqual(self.put("{n}", hidden=1), "-")
        self.assertEqual(self.put("{n} {all} {name}", "ab", hidden=1), "- 0 ab")
        self.assertEqual(self.put("{n} of {all}", ahead=(0, 0, 1), behind=(1, 0), hidden=1), "- of 3")

    def test_slides_hidden_ahead_of_it(self):
        self.assertEqual(self.put("{n} of {all}", ahead=(1, 1)), "1 of 1")
        self.assertEqual(self.put("{n} of {all}", ahead=(0, 1, 0, 1)), "3 of 3")

    def test_slides_hidden_behind_it(self):
        self.assertEqual(self.put("{n} of {all}", ahead=(0,), behind=(1, 0, 1)), "2 of 3")

    def test_numbers_of_two_figures(self):
        self.assertEqual(self.put("{n} of {all}", ahead=(0,) * 11, behind=(0,) * 28), "12 of 40")

    def test_a_name_of_eight_signs_in_a_line_of_sixty(self):
        self.assertEqual(self.put("{name}" * 10, "abcdefgh"), "abcdefgh" * 10)
        self.assertEqual(self.put("x" * 54 + "{name}", "abcdefgh"), "x" * 54 + "abcdefgh")

    def test_fields_of_a_masters_text(self):
        masters = (("m", "top", ()), ("top", None, (("p", (), ("{name} {n}", "", "{all}")),)))
        deck = (masters, (bare("a", "m"), bare("b", "m", hidden=1), bare("c", "top")))
        self.assertEqual(lines_at(deck, "a", "p"), ("a 1", "", "2"))
        self.assertEqual(lines_at(deck, "b", "p"), ("b -", "", "2"))
        self.assertEqual(lines_at(deck, "c", "p"), ("c 2", "", "2"))

    def test_all_else_stays(self):
        for line in ("", " ", "  two  blanks ", "a {b} c", "[n] <all>", "x" * 60):
            self.assertEqual(self.put(line), line)


class RefusalTest(unittest.TestCase):
    def test_no_slide_alone(self):
        for slide in NO_SLIDES:
            with self.subTest(kind=str(type(slide))):
                self.assertRaises(NoSlide, lines_at, DECK, slide, "body")

    def test_no_place_alone(self):
        for place in NO_PLACES:
            with self.subTest(kind=str(type(place))):
                self.assertRaises(NoPlace, lines_at, DECK, "one", place)

    def test_both_due(self):
        for thing in OTHERS + ("none",):
            with self.subTest(kind=str(type(thing))):
                self.assertRaises(NoSlide, lines_at, DECK, thing, thing)

    def test_a_fill_of_a_place_that_strays(self):
        self.assertRaises(NoPlace, lines_at, DECK, "one", "lost")
