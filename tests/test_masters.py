"""Promises 6 and 7: chains, places, worths and texts at masters; with 2 and 10 where they touch these."""

import unittest

from mastershow.errors import NoMaster, NoPlace, NoTrait
from mastershow.masters import chain_of, is_masters, places_of, text_by, worth_by
from mastershow.names import TRAITS
from tests.things import MASTERS, STRANGE

NO_NAMES = STRANGE + (None, 0, 1, "", "none", "Leaf", "leaf ", "lea", "leaff", (), ("leaf",), ["leaf"], ("leaf", "mid"))
NO_TRAITS = STRANGE + (None, 0, 1, "", "Ink", "inks", "color", (), TRAITS, ["ink"], ("ink",))


class ChainTest(unittest.TestCase):
    def test_chains(self):
        self.assertEqual(chain_of(MASTERS, "leaf"), ["leaf", "mid", "base"])
        self.assertEqual(chain_of(MASTERS, "mid"), ["mid", "base"])
        self.assertEqual(chain_of(MASTERS, "base"), ["base"])
        self.assertEqual(chain_of(MASTERS, "other"), ["other"])

    def test_a_chain_is_the_same_in_any_order_of_the_masters(self):
        self.assertTrue(is_masters(MASTERS[::-1]))
        for name in ("leaf", "mid", "base", "other"):
            for turn in range(4):
                turned = MASTERS[turn:] + MASTERS[:turn]
                self.assertEqual(chain_of(turned, name), chain_of(MASTERS, name))
                self.assertEqual(chain_of(turned[::-1], name), chain_of(MASTERS, name))

    def test_a_chain_of_twelve(self):
        masters = tuple((f"m{k}", f"m{k - 1}" if k else None, ()) for k in range(12))
        self.assertEqual(chain_of(masters, "m11"), [f"m{k}" for k in range(11, -1, -1)])
        self.assertEqual(chain_of(masters, "m0"), ["m0"])

    def test_no_master(self):
        for name in NO_NAMES:
            with self.subTest(kind=str(type(name))):
                self.assertRaises(NoMaster, chain_of, MASTERS, name)

    def test_a_place_is_no_master(self):
        self.assertRaises(NoMaster, chain_of, MASTERS, "body")

    def test_the_list_is_the_askers_own(self):
        told = chain_of(MASTERS, "leaf")
        told.clear()
        self.assertEqual(chain_of(MASTERS, "leaf"), ["leaf", "mid", "base"])
        self.assertEqual(told, [])
        self.assertIs(type(chain_of(MASTERS, "leaf")), list)


class PlacesTest(unittest.TestCase):
    def test_the_places_of_the_last_of_the_chain_come_first(self):
        self.assertEqual(places_of(MASTERS, "base"), ["top", "body", "note"])
        self.assertEqual(places_of(MASTERS, "mid"), ["top", "body", "note", "foot"])
        self.assertEqual(places_of(MASTERS, "leaf"), ["top", "body", "note", "foot", "side"])
        self.assertEqual(places_of(MASTERS, "other"), ["alone"])

    def test_places_are_not_put_in_the_order_of_their_names(self):
        masters = (
            ("a", "b", (("a", (), None), ("z", (), None))),
            ("b", None, (("m", (), None), ("c", (), None), ("z", (), None))),
        )
        self.assertEqual(places_of(masters, "a"), ["m", "c", "z", "a"])

    def test_a_master_without_places(self):
        masters = (("a", "b", ()), ("b", None, ()), ("c", "a", (("p", (), None),)), ("d", "c", ()))
        self.assertEqual(places_of(masters, "a"), [])
        self.assertEqual(places_of(masters, "d"), ["p"])

    def test_places_are_the_same_in_any_order_of_the_masters(self):
        for name in ("leaf", "mid", "base", "other"):
            self.assertEqual(places_of(MASTERS[::-1], name), places_of(MASTERS, name))

    def test_no_master(self):
        for name in NO_NAMES:
            with self.subTest(kind=str(type(name))):
                self.assertRaises(NoMaster, places_of, MASTERS, name)

    def test_the_list_is_the_askers_own(self):
        told = places_of(MASTERS, "leaf")
        told.append("more")
        self.assertEqual(places_of(MASTERS, "leaf"), ["top", "body", "note", "foot", "side"])
        places_of(MASTERS, "mid")
        self.assertEqual(told, ["top", "body", "note", "foot", "side", "more"])
        self.assertIs(type(places_of(MASTERS, "leaf")), list)


class WorthTest(unittest.TestCase):
    def test_set_at_the_master_itself(self):
        self.assertEqual(worth_by(MASTERS, "leaf", "top", "ink"), ("blue", ("master", "leaf")))
        self.assertEqual(worth_by(MASTERS, "mid", "foot", "size"), (3, ("master", "mid")))
        self.assertEqual(worth_by(MASTERS, "other", "alone", "wide"), (999, ("master", "other")))

    def test_set_at_one_over_it(self):
        self.assertEqual(worth_by(MASTERS, "leaf", "foot", "size"), (3, ("master", "mid")))
        self.assertEqual(worth_by(MASTERS, "leaf", "body", "top"), (9, ("master", "base")))
        self.assertEqual(worth_by(MASTERS, "mid", "top", "ink"), ("ash", ("master", "base")))

    def test_set_at_several_the_nearest_stands(self):
        self.assertEqual(worth_by(MASTERS, "leaf", "body", "left"), (-999, ("master", "leaf")))
        self.assertEqual(worth_by(MASTERS, "mid", "body", "left"), (7, ("master", "mid")))
        self.assertEqual(worth_by(MASTERS, "base", "body", "left"), (8, ("master", "base")))
        self.assertEqual(worth_by(MASTERS, "leaf", "body", "ink"), ("red", ("master", "mid")))

    def test_set_at_none_the_decks_own_stands(self):
        own = {"left": 0, "top": 0, "wide": 40, "high": 10, "size": 1, "ink": "plain"}
        for trait, worth in own.items():
            with self.subTest(trait):
                self.assertEqual(worth_by(MASTERS, "leaf", "note", trait), (worth, ("own",)))
                self.assertEqual(worth_by(MASTERS, "leaf", "side", trait), (worth, ("own",)))

    def test_each_trait_of_a_place(self):
        told = [worth_by(MASTERS, "mid", "top", trait) for trait in TRAITS]
        self.assertEqual(told, [(worth, ("master", "base")) for worth in (1, 2, 3, 4, 5, "ash")])

    def test_a_worth_like_the_decks_own_comes_from_its_master(self):
        masters = (("a", "b", (("p", (("left", 0),), None),)), ("b", None, (("p", (("left", 5),), None),)))
        self.assertEqual(worth_by(masters, "a", "p", "left"), (0, ("master", "a")))

    def test_what_is_set_below_does_not_reach_up(self):
        self.assertEqual(worth_by(MASTERS, "base", "body", "size"), (1, ("own",)))

    def test_a_place_of_another_name_sets_nothing(self):
        masters = (("a", None, (("p", (("left", 5),), ("p",)), ("q", (), None))),)
        self.assertEqual(worth_by(masters, "a", "q", "left"), (0, ("own",)))
        self.assertEqual(text_by(masters, "a", "q"), (None, None))

    def test_it_is_told_as_tuples(self):
        for told in (worth_by(MASTERS, "leaf", "body", "left"), worth_by(MASTERS, "leaf", "note", "left")):
            self.assertIs(type(told), tuple)
            self.assertIs(type(told[1]), tuple)

    def test_the_same_question_has_the_same_answer(self):
        first = [worth_by(MASTERS, "leaf", place, trait) for place in places_of(MASTERS, "leaf") for trait in TRAITS]
        again = [worth_by(MASTERS, "leaf", place, trait) for place in places_of(MASTERS, "leaf") for trait in TRAITS]
        self.assertEqual(first, again)


class TextTest(unittest.TestCase):
    def test_at_the_master_itself(self):
        self.assertEqual(text_by(MASTERS, "leaf", "top"), (("leaf top", ""), "leaf"))
        self.assertEqual(text_by(MASTERS, "base", "top"), (("base top",), "base"))

    def test_at_one_over_it(self):
        self.assertEqual(text_by(MASTERS, "leaf", "foot"), (("mid foot",), "mid"))
        self.assertEqual(text_by(MASTERS, "leaf", "body"), (("one", "two"), "base"))
        self.assertEqual(text_by(MASTERS, "mid", "top"), (("base top",), "base"))

    def test_lines_of_none_are_a_text(self):
        self.assertEqual(text_by(MASTERS, "leaf", "note"), ((), "mid"))
        self.assertEqual(text_by(MASTERS, "mid", "note"), ((), "mid"))
        self.assertEqual(text_by(MASTERS, "base", "note"), (("base note",), "base"))

    def test_at_none(self):
        self.assertEqual(text_by(MASTERS, "leaf", "side"), (None, None))

    def test_it_is_told_as_a_tuple(self):
        self.assertIs(type(text_by(MASTERS, "leaf", "top")), tuple)
        self.assertIs(type(text_by(MASTERS, "leaf", "side")), tuple)


class RefusalTest(unittest.TestCase):
    def test_no_master_alone(self):
        for name in NO_NAMES:
            with self.subTest(kind=str(type(name))):
                self.assertRaises(NoMaster, worth_by, MASTERS, name, "top", "ink")
                self.assertRaises(NoMaster, text_by, MASTERS, name, "top")

    def test_no_place_alone(self):
        for place in NO_NAMES:
            with self.subTest(kind=str(type(place))):
                self.assertRaises(NoPlace, worth_by, MASTERS, "leaf", place, "ink")
                self.assertRaises(NoPlace, text_by, MASTERS, "leaf", place)

    def test_a_place_of_another_chain_is_no_place(self):
        self.assertRaises(NoPlace, worth_by, MASTERS, "leaf", "alone", "wide")
        self.assertRaises(NoPlace, text_by, MASTERS, "leaf", "alone")

    def test_a_place_of_a_master_below_is_no_place(self):
        self.assertRaises(NoPlace, worth_by, MASTERS, "mid", "side", "wide")
        self.assertRaises(NoPlace, text_by, MASTERS, "base", "foot")

    def test_no_trait_alone(self):
        for trait in NO_TRAITS:
            with self.subTest(kind=str(type(trait))):
                self.assertRaises(NoTrait, worth_by, MASTERS, "leaf", "top", trait)
                self.assertRaises(NoTrait, worth_by, MASTERS, "leaf", "side", trait)

    def test_no_master_goes_ahead_of_no_place(self):
        for thing in STRANGE + (None, "none"):
            self.assertRaises(NoMaster, worth_by, MASTERS, thing, thing, "ink")
            self.assertRaises(NoMaster, text_by, MASTERS, thing, thing)

    def test_no_master_goes_ahead_of_no_trait(self):
        for thing in STRANGE + (None, "none"):
            self.assertRaises(NoMaster, worth_by, MASTERS, thing, "top", thing)

    def test_no_place_goes_ahead_of_no_trait(self):
        for thing in STRANGE + (None, "none"):
            self.assertRaises(NoPlace, worth_by, MASTERS, "leaf", thing, thing)

    def test_no_master_goes_ahead_of_both(self):
        for thing in STRANGE + (None, "none"):
            self.assertRaises(NoMaster, worth_by, MASTERS, thing, thing, thing)
