"""Promise 11: worths at slides, sheets and strays; with 2 and 10 where they touch these."""

import unittest

from mastershow.errors import NoPlace, NoSlide, NoTrait
from mastershow.masters import places_of, worth_by
from mastershow.worths import sheet_of, strays_of, worth_at
from tests.random_decks import some_deck
from tests.things import DECK, MASTERS, STRANGE, bare

TRAITS = ("left", "top", "wide", "high", "size", "ink")
OTHERS = STRANGE + (None, 0, 1, "", (), [], ("one",), ["one"])
NO_SLIDES = OTHERS + ("five", "One", "one ", "on", "ones", "leaf", "body")
NO_PLACES = OTHERS + ("none", "Body", "body ", "bod", "bodys", "leaf", "one", "alone")
NO_TRAITS = OTHERS + ("color", "Left", "left ", "lef", "lefts", "body")


class WorthAtTest(unittest.TestCase):
    def told(self, slide, place, trait, worth, *source):
        self.assertEqual(worth_at(DECK, slide, place, trait), (worth, source))

    def test_by_hand(self):
        self.told("one", "body", "left", 3, "hand")
        self.told("one", "body", "ink", "grey", "hand")
        self.told("one", "top", "wide", 50, "hand")
        self.told("one", "note", "top", -1, "hand")
        self.told("three", "alone", "high", 2, "hand")

    def test_by_the_slides_master(self):
        self.told("one", "body", "size", 99, "master", "leaf")
        self.told("one", "top", "ink", "blue", "master", "leaf")
        self.told("two", "body", "left", 8, "master", "base")
        self.told("four", "body", "left", 7, "master", "mid")

    def test_by_a_master_over_it(self):
        self.told("one", "body", "top", 9, "master", "base")
        self.told("one", "foot", "size", 3, "master", "mid")
        self.told("four", "top", "ink", "ash", "master", "base")

    def test_the_decks_own(self):
        self.told("one", "body", "wide", 40, "own")
        own = (0, 0, 40, 10, 1, "plain")
        for trait, worth in zip(TRAITS, own):
            self.told("one", "side", trait, worth, "own")
            self.told("two", "note", trait, worth, "own")

    def test_a_hand_of_another_slide_says_nothing(self):
        self.told("two", "top", "wide", 3, "master", "base")
        self.told("four", "body", "ink", "red", "master", "mid")

    def test_a_hand_of_another_place_or_trait_says_nothing(self):
        self.told("one", "note", "left", 0, "own")
        self.told("one", "foot", "top", 0, "own")

    def test_a_worth_by_hand_like_the_masters(self):
        deck = (MASTERS, (bare("s", "leaf", hands=(("body", "size", 99), ("side", "left", 0))),))
        self.assertEqual(worth_at(deck, "s", "body", "size"), (99, ("hand",)))
        self.assertEqual(worth_at(deck, "s", "side", "left"), (0, ("hand",)))

    def test_a_hand_of_a_place_that_strays(self):
        self.assertRaises(NoPlace, worth_at, DECK, "one", "gone", "size")
        self.assertRaises(NoPlace, worth_at, DECK, "three", "body", "left")

    def test_it_is_told_as_tuples(self):
        for trait in ("left", "size", "wide"):
            told = worth_at(DECK, "one", "body", trait)
            self.assertIs(type(told), tuple)
            self.assertIs(type(told[1]), tuple)

    def test_no_slide_alone(self):
        for slide in NO_SLIDES:
            with self.subTest(kind=str(type(slide))):
                self.assertRaises(NoSlide, worth_at, DECK, slide, "body", "left")

    def test_no_place_alone(self):
        for place in NO_PLACES:
            with self.subTest(kind=str(type(place))):
                self.assertRaises(NoPlace, worth_at, DECK, "one", place, "left")

    def test_no_trait_alone(self):
        for trait in NO_TRAITS:
            with self.subTest(kind=str(type(trait))):
                self.assertRaises(NoTrait, worth_at, DECK, "one", "body", trait)
                self.assertRaises(NoTrait, worth_at, DECK, "two", "note", trait)

    def test_two_or_three_due_at_once(self):
        for thing in OTHERS + ("none",):
            with self.subTest(kind=str(type(thing))):
                self.assertRaises(NoSlide, worth_at, DECK, thing, thing, "left")
                self.assertRaises(NoSlide, worth_at, DECK, thing, "body", thing)
                self.assertRaises(NoPlace, worth_at, DECK, "one", thing, thing)
                self.assertRaises(NoSlide, worth_at, DECK, thing, thing, thing)

    def test_a_deck_without_slides(self):
        self.assertRaises(NoSlide, worth_at, (MASTERS, ()), "one", "body", "left")


class SheetTest(unittest.TestCase):
    def test_the_whole_sheet_in_its_order(self):
        base, mid, leaf, hand, own = ("master", "base"), ("master", "mid"), ("master", "leaf"), ("hand",), ("own",)
        expected = {
            "top": ((1, base), (2, base), (50, hand), (4, base), (5, base), ("blue", leaf)),
            "body": ((3, hand), (9, base), (40, own), (10, own), (99, leaf), ("grey", hand)),
            "note": ((0, own), (-1, hand), (40, own), (10, own), (1, own), ("plain", own)),
            "foot": ((0, own), (0, own), (40, own), (10, own), (3, mid), ("plain", own)),
            "side": ((0, own), (0, own), (40, own), (10, own), (1, own), ("plain", own)),
        }
        rows = [
            (place, trait, worth, source)
            for place in ("top", "body", "note", "foot", "side")
            for trait, (worth, source) in zip(TRAITS, expected[place])
        ]
        self.assertEqual(sheet_of(DECK, "one"), rows)

    def test_each_row_is_as_worth_at_tells_it(self):
        for number in range(60):
            deck, _ = some_deck(number)
            for slide in deck[1]:
                rows = [
                    (place, trait, *worth_at(deck, slide[0], place, trait))
                    for place in places_of(deck[0], slide[1])
                    for trait in TRAITS
                ]
                self.assertEqual(sheet_of(deck, slide[0]), rows)

    def test_what_is_not_set_by_hand_is_the_masters(self):
        for number in range(60):
            deck, _ = some_deck(number)
            for name, master, hands, *_ in deck[1]:
                set_by_hand = {(place, trait): worth for place, trait, worth in hands}
                for place, trait, worth, source in sheet_of(deck, name):
                    if (place, trait) in set_by_hand:
                        self.assertEqual((worth, source), (set_by_hand[place, trait], ("hand",)))
                    else:
                        self.assertEqual((worth, source), worth_by(deck[0], master, place, trait))

    def test_a_master_without_places(self):
        deck = ((("m", None, ()),), (bare("s", "m", hands=(("p", "left", 1),)),))
        self.assertEqual(sheet_of(deck, "s"), [])

    def test_no_slide(self):
        for slide in NO_SLIDES:
            with self.subTest(kind=str(type(slide))):
                self.assertRaises(NoSlide, sheet_of, DECK, slide)

    def test_the_list_is_the_askers_own(self):
        told = sheet_of(DECK, "one")
        self.assertIs(type(told), list)
        self.assertEqual({type(row) for row in told}, {tuple})
        whole = list(told)
        told.clear()
        self.assertEqual(sheet_of(DECK, "one"), whole)
        self.assertEqual(told, [])


class StraysTest(unittest.TestCase):
    def strays(self, **parts):
        return strays_of((MASTERS, (bare("s", "leaf", **parts),)), "s")

    def test_of_all(self):
        self.assertEqual(strays_of(DECK, "one"), ["gone", "lost", "void", "where"])
        self.assertEqual(strays_of(DECK, "two"), [])
        self.assertEqual(strays_of(DECK, "three"), ["body"])
        self.assertEqual(strays_of(DECK, "four"), [])

    def test_of_hands(self):
        hands = (("alone", "left", 1), ("body", "left", 1), ("zoo", "left", 1), ("zoo", "top", 1))
        self.assertEqual(self.strays(hands=hands), ["alone", "zoo"])

    def test_of_fills(self):
        self.assertEqual(self.strays(fills=(("alone", ()), ("side", ()), ("zoo", ("a",)))), ["alone", "zoo"])

    def test_of_steps(self):
        steps = tuple(("press", 0, "go", place, None) for place in ("zoo", "foot", "alone", "zoo", "note"))
        self.assertEqual(self.strays(steps=steps), ["alone", "zoo"])

    def test_of_links(self):
        links = (("alone", ("first",)), ("body", ("slide", "s")), ("zoo", ("slide", "s")))
        self.assertEqual(self.strays(links=links), ["alone", "zoo"])

    def test_each_name_once_and_rising(self):
        told = self.strays(
            hands=(("d", "left", 1), ("d", "top", 1), ("e", "left", 1)),
            fills=(("c", ()), ("d", ())),
            steps=(("press", 0, "go", "d", None), ("press", 0, "go", "b", None), ("press", 0, "go", "b1", None)),
            links=(("a", ("first",)), ("ba", ("first",)), ("d", ("first",))),
        )
        self.assertEqual(told, ["a", "b", "b1", "ba", "c", "d", "e"])

    def test_a_place_of_a_master_below_strays(self):
        deck = (MASTERS, (bare("s", "mid", fills=(("foot", ()), ("side", ()))),))
        self.assertEqual(strays_of(deck, "s"), ["side"])

    def test_no_slide(self):
        for slide in NO_SLIDES:
            with self.subTest(kind=str(type(slide))):
                self.assertRaises(NoSlide, strays_of, DECK, slide)

    def test_the_list_is_the_askers_own(self):
        told = strays_of(DECK, "one")
        self.assertIs(type(told), list)
        told.append("more")
        self.assertEqual(strays_of(DECK, "one"), ["gone", "lost", "void", "where"])
        self.assertEqual(told[-1], "more")
