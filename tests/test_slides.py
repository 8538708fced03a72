"""Promise 8: what are hands, fills, steps, links and slides; each clause is broken alone."""

import unittest

from mastershow.decks import fault_of
from tests.things import DECK, MASTERS, ONE, STRANGE, THREE, bare, changed, slide_with

TRAITS = ("left", "top", "wide", "high", "size", "ink")
WORTHS = {"left": -999, "top": 999, "wide": 1, "high": 999, "size": 99, "ink": "ash"}
NO_NAMES = ("", "P", "1p", "abcdefghi", "p\n", "p q", None, 0, ("p",), ["p"])
SIGNS = "".join(chr(code) for code in range(32, 127) if chr(code) not in "%\\")


def names(many):
    """Rising names, so many."""
    return [f"p{k // 10}{k % 10}" for k in range(many)]


class SlideCase(unittest.TestCase):
    def told(self, slide, expected):
        self.assertEqual(fault_of((MASTERS, (slide,))), expected)
        self.assertEqual(fault_of((MASTERS, (bare("ahead"), slide))), expected and ("slide", 1))

    def yes(self, **parts):
        self.told(slide_with(bare("slide"), **parts), None)

    def no(self, **parts):
        self.told(slide_with(bare("slide"), **parts), ("slide", 0))


class WholeTest(SlideCase):
    def test_a_deck_with_each_part_filled(self):
        self.assertIsNone(fault_of(DECK))

    def test_a_slide_without_anything(self):
        self.yes()

    def test_the_name_and_the_master_are_names(self):
        for name in NO_NAMES + STRANGE:
            with self.subTest(kind=str(type(name))):
                self.no(name=name)
                self.no(master=name)

    def test_a_tuple_of_eight(self):
        self.told(bare("slide")[:7], ("slide", 0))
        self.told(bare("slide") + (0,), ("slide", 0))
        self.told(bare("slide")[1:], ("slide", 0))
        self.told((), ("slide", 0))
        self.told(list(bare("slide")), ("slide", 0))

    def test_hidden(self):
        self.yes(hidden=0)
        self.yes(hidden=1)
        for hidden in (True, False, None, 2, -1, 10, "0", "1", "", (), (0,), [1]) + STRANGE:
            with self.subTest(kind=str(type(hidden))):
                self.no(hidden=hidden)

    def test_notes_of_200_and_201_signs(self):
        self.yes(notes="")
        self.yes(notes=" ")
        self.yes(notes="x" * 200)
        self.yes(notes=" " * 200)
        self.no(notes="x" * 201)
        self.no(notes=" " * 201)

    def test_signs_of_notes(self):
        self.yes(notes=SIGNS)
        for code in [code for code in range(300) if chr(code) not in SIGNS] + [0x2028, 0xD800, 0xFF05, 0x1F600]:
            with self.subTest(code):
                self.no(notes=chr(code))
                self.no(notes="a" + chr(code) + "b")

    def test_notes_without_a_line_feed(self):
        for notes in ("\n", "a\nb", "a\n", "\na"):
            self.no(notes=notes)

    def test_notes_of_other_kinds(self):
        for notes in (None, 0, 1, (), ("a",), ["a"]) + STRANGE:
            with self.subTest(kind=str(type(notes))):
                self.no(notes=notes)


class HandsTest(SlideCase):
    def test_each_trait_with_worths_at_its_bounds(self):
        for trait, worth in WORTHS.items():
            self.yes(hands=(("p", trait, worth),))

    def test_worths_beyond_their_bounds(self):
        beyond = {"left": -1000, "top": 1000, "wide": 0, "high": 1000, "size": 100, "ink": "abcdefghi"}
        for trait, worth in beyond.items():
            with self.subTest(trait):
                self.no(hands=(("p", trait, worth),))
                self.no(hands=(("a", "left", 0), ("p", trait, worth)))

    def test_worths_of_another_trait(self):
        self.no(hands=(("p", "ink", 5),))
        self.no(hands=(("p", "left", "red"),))
        self.no(hands=(("p", "wide", -5),))

    def test_what_is_no_worth(self):
        for trait in TRAITS:
            for worth in (None,) + STRANGE:
                with self.subTest(trait=trait, kind=str(type(worth))):
                    self.no(hands=(("p", trait, worth),))

    def test_what_is_no_trait(self):
        for trait in ("color", "Left", "", None, 1, ("left",), ["left"]) + STRANGE:
            with self.subTest(kind=str(type(trait))):
                self.no(hands=(("p", trait, 1),))

    def test_what_is_no_place(self):
        for place in NO_NAMES + STRANGE:
            with self.subTest(kind=str(type(place))):
                self.no(hands=((place, "left", 1),))

    def test_tuples_of_three(self):
        self.no(hands=(("p", "left"),))
        self.no(hands=(("p", "left", 1, 1),))
        self.no(hands=((),))
        self.no(hands=("p", "left", 1))
        self.no(hands=([("p", "left", 1)],))

    def test_rising_names(self):
        self.yes(hands=(("a", "ink", "x"), ("b", "left", 1), ("b1", "left", 1), ("ba", "left", 1), ("c", "left", 1)))
        self.no(hands=(("b", "left", 1), ("a", "ink", "x")))
        self.no(hands=(("ab", "left", 1), ("a", "left", 1)))
        self.no(hands=(("pa", "left", 1), ("p1", "left", 1)))
        self.no(hands=(("a", "left", 1), ("c", "left", 1), ("b", "left", 1)))

    def test_traits_in_order(self):
        whole = tuple(("p", trait, WORTHS[trait]) for trait in TRAITS)
        self.yes(hands=whole)
        self.yes(hands=whole[1::2])
        self.no(hands=whole[::-1])
        for at in range(5):
            with self.subTest(at):
                self.no(hands=whole[:at] + (whole[at + 1], whole[at]) + whole[at + 2 :])

    def test_none_twice(self):
        self.no(hands=(("p", "left", 1), ("p", "left", 1)))
        self.no(hands=(("p", "left", 1), ("p", "left", 2)))
        self.no(hands=(("p", "left", 1), ("p", "ink", "a"), ("p", "ink", "b")))

    def test_48_and_49(self):
        hands = tuple((name, trait, WORTHS[trait]) for name in names(9) for trait in TRAITS)
        self.yes(hands=hands[:48])
        self.no(hands=hands[:49])
        self.no(hands=hands)

    def test_other_things_for_the_tuple(self):
        for hands in (None, 0, "", "abc", [("p", "left", 1)], [], {("p", "left", 1): 1}) + STRANGE:
            with self.subTest(kind=str(type(hands))):
                self.no(hands=hands)
        for hand in (None, 0, "", "abc", ["p", "left", 1]) + STRANGE:
            with self.subTest(kind=str(type(hand))):
                self.no(hands=(hand,))


class FillsTest(SlideCase):
    def test_fills(self):
        self.yes(fills=(("p", ()),))
        self.yes(fills=(("p", ("",)), ("q", ("x" * 60,) * 12)))

    def test_lines(self):
        for lines in (None, "line", ["line"], ("x" * 61,), ("a",) * 13, ("a\nb",), ("100%",), ("a\\",), (None,), 0):
            with self.subTest(lines):
                self.no(fills=(("p", lines),))
        for lines in STRANGE:
            with self.subTest(kind=str(type(lines))):
                self.no(fills=(("p", lines),))
                self.no(fills=(("p", (lines,)),))

    def test_what_is_no_place(self):
        for place in NO_NAMES + STRANGE:
            with self.subTest(kind=str(type(place))):
                self.no(fills=((place, ()),))

    def test_rising_names_none_twice(self):
        self.yes(fills=(("a", ()), ("a1", ()), ("aa", ()), ("b", ())))
        self.no(fills=(("b", ()), ("a", ())))
        self.no(fills=(("a", ()), ("a", ())))
        self.no(fills=(("a", ("x",)), ("a", ("y",))))
        self.no(fills=(("a", ()), ("c", ()), ("b", ())))
        self.no(fills=(("a", ()), ("b", ()), ("a", ())))
        self.no(fills=(("aa", ()), ("a1", ())))

    def test_twelve_and_thirteen(self):
        fills = tuple((name, ("line",)) for name in names(13))
        self.yes(fills=fills[:12])
        self.no(fills=fills)

    def test_tuples_of_two(self):
        self.no(fills=(("p",),))
        self.no(fills=(("p", (), ()),))
        self.no(fills=((),))
        self.no(fills=("p", ()))

    def test_other_things(self):
        for fills in (None, 0, "", "ab", [("p", ())], []) + STRANGE:
            with self.subTest(kind=str(type(fills))):
                self.no(fills=fills)
        for fill in (None, 0, "", "ab", ["p", ()]) + STRANGE:
            with self.subTest(kind=str(type(fill))):
                self.no(fills=(fill,))


class StepsTest(SlideCase):
    good = ("with", 5, "come", "p", 3)

    def step(self, at, thing):
        return changed(self.good, (at,), thing)

    def fine(self, at, thing):
        self.yes(steps=(self.step(at, thing),))

    def wrong(self, at, thing):
        self.no(steps=(self.step(at, thing),))
        self.no(steps=(self.good, self.step(at, thing)))

    def test_kinds(self):
        for kind in ("press", "with", "after"):
            self.fine(0, kind)
        for kind in ("", "Press", "pressed", "come", "go", "dim", "left", None, 0, ("press",), ["press"]) + STRANGE:
            with self.subTest(kind=str(type(kind))):
                self.wrong(0, kind)

    def test_waits(self):
        for wait in (0, 1, 50, 98, 99):
            self.fine(1, wait)
        for wait in (-1, 100, True, False, None, "5", "", (5,), [5]) + STRANGE:
            with self.subTest(kind=str(type(wait))):
                self.wrong(1, wait)

    def test_deeds(self):
        for deed in ("come", "go", "dim"):
            self.fine(2, deed)
        for deed in ("", "Come", "comes", "press", "with", "after", None, 0, ("come",), ["come"]) + STRANGE:
            with self.subTest(kind=str(type(deed))):
                self.wrong(2, deed)

    def test_places(self):
        self.fine(3, "abcdefgh")
        for place in NO_NAMES + STRANGE:
            with self.subTest(kind=str(type(place))):
                self.wrong(3, place)

    def test_lines(self):
        for line in (None, 0, 1, 10, 11):
            self.fine(4, line)
        for line in (-1, 12, True, False, "1", "", (1,), [1]) + STRANGE:
            with self.subTest(kind=str(type(line))):
                self.wrong(4, line)

    def test_steps_may_be_alike_and_in_any_order(self):
        self.yes(steps=(self.good, self.good))
        self.yes(steps=(("after", 9, "go", "z", None), ("press", 0, "dim", "a", 0), self.good, ("press", 0, "go", "z", 9)))

    def test_24_and_25(self):
        self.yes(steps=(self.good,) * 24)
        self.no(steps=(self.good,) * 25)
        self.yes(steps=(("press", 0, "come", "p", None),) * 24)

    def test_tuples_of_five(self):
        self.no(steps=(self.good[:4],))
        self.no(steps=(self.good + (None,),))
        self.no(steps=(self.good[1:],))
        self.no(steps=((),))
        self.no(steps=self.good)

    def test_other_things(self):
        for steps in (None, 0, "", "abcde", [self.good], []) + STRANGE:
            with self.subTest(kind=str(type(steps))):
                self.no(steps=steps)
        for step in (None, 0, "", "abcde", list(self.good)) + STRANGE:
            with self.subTest(kind=str(type(step))):
                self.no(steps=(step,))


class LinksTest(SlideCase):
    def test_each_kind_of_link(self):
        self.yes(links=(("p", ("first",)),))
        self.yes(links=(("p", ("last",)),))
        self.yes(links=(("p", ("return",)),))
        self.yes(links=(("p", ("slide", "slide")),))
        self.yes(links=(("a", ("first",)), ("b", ("first",)), ("c", ("slide", "slide")), ("d", ("slide", "slide"))))

    def test_a_slide_that_is_called_as_a_link_is(self):
        for name in ("first", "last", "return", "slide"):
            self.told(bare(name, links=(("p", ("slide", name)),)), None)

    def test_what_is_no_target(self):
        targets = (
            ("slide",),
            ("slide", "slide", "slide"),
            ("slide", "Slide"),
            ("slide", None),
            ("slide", ("slide",)),
            ("Slide", "slide"),
            ("first", "slide"),
            ("last", "slide"),
            ("return", "slide"),
            ("first", None),
            ("First",),
            ("firsts",),
            ("",),
            ("next",),
            (),
            "first",
            "slide",
            ["first"],
            ["slide", "slide"],
            None,
            0,
        )
        for target in targets + STRANGE:
            with self.subTest(kind=str(type(target))):
                self.no(links=(("p", target),))
        for thing in STRANGE:
            with self.subTest(kind=str(type(thing))):
                self.no(links=(("p", (thing,)),))
                self.no(links=(("p", (thing, "slide")),))
                self.no(links=(("p", ("slide", thing)),))
                self.no(links=(("p", ("first", thing)),))

    def test_what_is_no_place(self):
        for place in NO_NAMES + STRANGE:
            with self.subTest(kind=str(type(place))):
                self.no(links=((place, ("first",)),))

    def test_rising_names_none_twice(self):
        first = ("first",)
        self.yes(links=(("a", first), ("a1", first), ("aa", first), ("b", first)))
        self.no(links=(("b", first), ("a", first)))
        self.no(links=(("a", first), ("a", first)))
        self.no(links=(("a", first), ("a", ("last",))))
        self.no(links=(("a", first), ("c", first), ("b", first)))
        self.no(links=(("a", first), ("b", first), ("a", first)))

    def test_twelve_and_thirteen(self):
        links = tuple((name, ("return",)) for name in names(13))
        self.yes(links=links[:12])
        self.no(links=links)

    def test_tuples_of_two(self):
        self.no(links=(("p",),))
        self.no(links=(("p", ("first",), 0),))
        self.no(links=(("p", "first"),))
        self.no(links=((),))
        self.no(links=("p", ("first",)))

    def test_other_things(self):
        for links in (None, 0, "", "ab", [("p", ("first",))], []) + STRANGE:
            with self.subTest(kind=str(type(links))):
                self.no(links=links)
        for link in (None, 0, "", "ab", ["p", ("first",)]) + STRANGE:
            with self.subTest(kind=str(type(link))):
                self.no(links=(link,))


class StraysTest(unittest.TestCase):
    def test_names_that_are_no_places_of_the_master_are_no_fault(self):
        slide = slide_with(
            bare("slide", "other"),
            hands=(("gone", "left", 1),),
            fills=(("gone", ("a",)),),
            steps=(("press", 0, "go", "gone", 0),),
            links=(("gone", ("last",)),),
        )
        self.assertIsNone(fault_of((MASTERS, (slide,))))
        self.assertIsNone(fault_of((((("m", None, ()),)), (bare("s", "m", hands=ONE[2]),))))
        self.assertIsNone(fault_of((MASTERS, (bare("s", "base", hands=THREE[2], fills=ONE[3], steps=ONE[4]),))))
