"""Promise 15: what is seen to change between two decks."""

import unittest

from mastershow.changes import (
    by_hand,
    fill_place,
    lay_slide,
    lay_under,
    let_go,
    put_place,
    set_text,
    set_trait,
    take_place,
    unset_trait,
)
from mastershow.touches import touched_by
from mastershow.worths import sheet_of
from tests.random_decks import TRAITS, some_deck
from tests.things import DECK, FOUR, MASTERS, ONE, SLIDES, THREE, TWO, bare, slide_with

BEHIND = (MASTERS, SLIDES[::-1])


def all_of(slide, *places):
    return [(slide, place, trait) for place in places for trait in TRAITS]


class UnlikeTest(unittest.TestCase):
    def told(self, fresh, *expected):
        self.assertEqual(touched_by(DECK, fresh), list(expected))

    def test_a_deck_and_itself(self):
        self.told(DECK)
        self.assertEqual(touched_by(BEHIND, BEHIND), [])

    def test_a_worth_of_a_master(self):
        fresh = set_trait(DECK, "base", "body", "top", 5)
        self.told(fresh, *[(slide, "body", "top") for slide in ("one", "two", "four")])
        fresh = set_trait(DECK, "base", "body", "wide", 5)
        self.told(fresh, *[(slide, "body", "wide") for slide in ("one", "two", "four")])
        self.told(unset_trait(DECK, "mid", "body", "left"), ("four", "body", "left"))

    def test_a_worth_that_something_nearer_hides(self):
        self.told(set_trait(DECK, "base", "body", "left", 5), ("two", "body", "left"))
        self.told(set_trait(DECK, "leaf", "body", "left", 5))

    def test_a_hand(self):
        self.told(by_hand(DECK, "one", "body", "left", 4), ("one", "body", "left"))
        self.told(by_hand(DECK, "four", "note", "ink", "x"), ("four", "note", "ink"))
        self.told(let_go(DECK, "one", "top", "wide"), ("one", "top", "wide"))

    def test_a_hand_of_a_place_that_strays(self):
        self.told(let_go(DECK, "one", "gone", "size"))

    def test_a_worth_that_comes_from_elsewhere_but_is_the_same(self):
        self.told(by_hand(DECK, "one", "side", "left", 0))
        self.told(by_hand(DECK, "two", "body", "left", 8))
        self.told(set_trait(DECK, "leaf", "foot", "size", 3))
        self.told(set_trait(DECK, "other", "alone", "ink", "plain"))

    def test_a_place_more(self):
        self.told(put_place(DECK, "other", "aa"), *all_of("three", "aa"))
        self.told(put_place(DECK, "mid", "aa"), *all_of("one", "aa"), *all_of("four", "aa"))

    def test_a_place_fewer(self):
        self.told(take_place(DECK, "leaf", "side"), *all_of("one", "side"))
        self.told(take_place(DECK, "other", "alone"), *all_of("three", "alone"))
        self.told(take_place(DECK, "base", "top"), *self.top_taken())

    def top_taken(self):
        """Slide one keeps the place by its own master: of it, its worths by hand and by that are the same."""
        return (
            [("one", "top", trait) for trait in ("left", "top", "high", "size")]
            + all_of("two", "top")
            + all_of("four", "top")
        )

    def test_an_over(self):
        fresh = lay_under(DECK, "mid", None)
        traits = [("one", "top", trait) for trait in ("left", "top", "high", "size")]
        self.told(fresh, *traits, ("one", "body", "top"), *all_of("four", "top"), ("four", "body", "top"))

    def test_a_slides_master(self):
        changed = [("four", "body", "left"), ("four", "body", "ink")]
        self.told(lay_slide(DECK, "four", "base"), *changed, *all_of("four", "foot"))

    def test_its_places_in_order_then_those_that_the_other_has_more(self):
        fresh = lay_slide(DECK, "three", "mid")
        told = all_of("three", "alone") + all_of("three", "top", "body", "note", "foot")
        self.told(fresh, *told)
        self.assertEqual(touched_by(fresh, DECK), told[6:] + told[:6])

    def test_the_order_of_places_makes_no_odds_but_to_the_order_of_what_is_told(self):
        masters = (("m", None, (("a", (), None), ("b", (("left", 5),), None))),)
        turned = (("m", None, (("b", (), None), ("a", (("left", 5),), None))),)
        deck, fresh = (masters, (bare("s", "m"),)), (turned, (bare("s", "m"),))
        self.assertEqual(touched_by(deck, fresh), [("s", "a", "left"), ("s", "b", "left")])
        self.assertEqual(touched_by(fresh, deck), [("s", "b", "left"), ("s", "a", "left")])
        turned = (("m", None, (("b", (("left", 5),), None), ("a", (), None))),)
        self.assertEqual(touched_by(deck, (turned, (bare("s", "m"),))), [])

    def test_the_order_of_the_slides(self):
        fresh = set_trait(BEHIND, "base", "body", "top", 5)
        self.told(fresh, *[(slide, "body", "top") for slide in ("one", "two", "four")])
        self.assertEqual(touched_by(fresh, DECK), [(slide, "body", "top") for slide in ("four", "two", "one")])

    def test_the_slides_there_are(self):
        self.told((MASTERS, ()))
        self.assertEqual(touched_by((MASTERS, ()), DECK), [])
        self.told((MASTERS, SLIDES + (bare("five"),)))
        self.told((MASTERS, (TWO, FOUR)))
        fresh = (MASTERS, (bare("five"), slide_with(FOUR, hands=()), TWO))
        self.told(fresh, ("four", "foot", "size"))

    def test_what_is_no_worth_makes_no_odds(self):
        self.told(fill_place(DECK, "one", "body", ("x",)))
        self.told(set_text(DECK, "leaf", "top", ("x",)))
        self.told(set_text(DECK, "leaf", "foot", None))
        bare_one = slide_with(ONE, fills=(), steps=(), links=(), hidden=1, notes="")
        self.told((MASTERS, (bare_one, TWO, THREE, FOUR)))

    def test_the_name_of_a_master_makes_no_odds(self):
        masters = tuple(("renamed",) + known[1:] if known[0] == "leaf" else known for known in MASTERS)
        self.told((masters, (slide_with(ONE, master="renamed"), TWO, THREE, FOUR)))

    def test_the_list_is_the_askers_own(self):
        fresh = by_hand(DECK, "one", "body", "left", 4)
        told = touched_by(DECK, fresh)
        self.assertIs(type(told), list)
        self.assertEqual({type(row) for row in told}, {tuple})
        told.clear()
        self.assertEqual(touched_by(DECK, fresh), [("one", "body", "left")])
        self.assertEqual(told, [])


class ChanceTest(unittest.TestCase):
    def test_as_the_sheets_tell(self):
        for number in range(60):
            deck, _ = some_deck(number)
            fresh, _ = some_deck(number + 1000)
            names = [slide[0] for slide in deck[1]]
            expected = []
            for name in names:
                if name not in [slide[0] for slide in fresh[1]]:
                    continue
                ahead = [row[:3] for row in sheet_of(deck, name)]
                behind = [row[:3] for row in sheet_of(fresh, name)]
                rows = [row for row in ahead if row not in behind]
                told = [row[:2] for row in rows]
                here = [row[0] for row in ahead]
                told += [row[:2] for row in behind if row[0] not in here]
                expected += [(name, *key) for key in told]
            self.assertEqual(touched_by(deck, fresh), expected)
