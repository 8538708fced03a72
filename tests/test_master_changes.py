"""Promises 12 and 13: the six changes of masters, and what they refuse, in which order."""

import unittest

from mastershow.changes import lay_under, put_place, set_text, set_trait, take_place, unset_trait
from mastershow.decks import fault_of
from mastershow.errors import NoMaster, NoPlace, NoSetting, NoTrait, NoWorth, Ring, Taken, TooMany
from mastershow.masters import chain_of, places_of, text_by, worth_by
from tests.random_decks import NAMES, TRAITS, some_deck, some_lines, some_worth
from tests.things import DECK, MASTERS, SLIDES, STRANGE

OTHERS = STRANGE + (None, 0, 1, "", (), [], ("leaf",), ["leaf"])
NO_MASTERS = OTHERS + ("none", "Leaf", "leaf ", "lea", "leafs", "one", "body")
NO_NAMES = OTHERS + ("Body", "body ", "1body", "abcdefghi", "bo dy")
NO_PLACES = NO_NAMES + ("none", "bod", "bodys", "leaf", "one", "alone")
NO_TRAITS = OTHERS + ("color", "Left", "left ", "lef", "lefts", "body")
NO_LINES = STRANGE + (0, 1, "", "line", [], ["line"], ("x" * 61,), ("a",) * 13, ("a\nb",), ("100%",), ("a\\b",))

# What is at the masters that several tests change.
MID_BODY = ("body", (("left", 7), ("ink", "red")), None)
LEAF_TOP = ("top", (("ink", "blue"),), ("leaf top", ""))


def place(masters, master, name):
    """The own place of this name of a master of this name."""
    (places,) = [places for known, _, places in masters if known == master]
    (own,) = [own for own in places if own[0] == name]
    return own


def expected(master, over, places):
    """The deck of the tests with this master in the place of the one of its name."""
    return tuple((master, over, places) if known[0] == master else known for known in MASTERS), SLIDES


def own_places(master):
    (places,) = [places for known, _, places in MASTERS if known == master]
    return places


def over_of(master):
    (over,) = [over for known, over, _ in MASTERS if known == master]
    return over


def with_own(master, fresh):
    """The deck of the tests with an own place of this master in the place of the one of its name."""
    places = tuple(fresh if known[0] == fresh[0] else known for known in own_places(master))
    return expected(master, over_of(master), places)


def one_more(master, fresh):
    """The deck of the tests with one more place behind the own ones of this master."""
    return expected(master, over_of(master), own_places(master) + (fresh,))


def full(many):
    """A deck of a master with so many places under one with a further place."""
    own = tuple((f"p{k}", (), None) for k in range(many))
    return ((("m", "top", own), ("top", None, (("above", (), None),))), ())


class SetTraitTest(unittest.TestCase):
    def test_in_the_place_of_one(self):
        fresh = ("body", (("left", -1), ("ink", "red")), None)
        self.assertEqual(set_trait(DECK, "mid", "body", "left", -1), with_own("mid", fresh))
        fresh = ("body", (("left", 7), ("ink", "blue")), None)
        self.assertEqual(set_trait(DECK, "mid", "body", "ink", "blue"), with_own("mid", fresh))

    def test_the_same_worth_again(self):
        self.assertEqual(set_trait(DECK, "mid", "body", "left", 7), DECK)

    def test_ahead_of_others(self):
        fresh = ("top", (("left", 5), ("ink", "blue")), ("leaf top", ""))
        self.assertEqual(set_trait(DECK, "leaf", "top", "left", 5), with_own("leaf", fresh))

    def test_between_others(self):
        for trait, worth in (("top", 5), ("wide", 6), ("high", 7), ("size", 8)):
            with self.subTest(trait):
                fresh = ("body", (("left", 7), (trait, worth), ("ink", "red")), None)
                self.assertEqual(set_trait(DECK, "mid", "body", trait, worth), with_own("mid", fresh))

    def test_behind_others(self):
        fresh = ("body", (("left", -999), ("size", 99), ("ink", "ash")), None)
        self.assertEqual(set_trait(DECK, "leaf", "body", "ink", "ash"), with_own("leaf", fresh))

    def test_as_the_first_one(self):
        fresh = ("side", (("size", 2),), None)
        self.assertEqual(set_trait(DECK, "leaf", "side", "size", 2), with_own("leaf", fresh))
        fresh = ("note", (("ink", "x"),), ())
        self.assertEqual(set_trait(DECK, "mid", "note", "ink", "x"), with_own("mid", fresh))

    def test_a_place_that_only_a_master_over_it_has(self):
        fresh = ("foot", (("left", 5),), None)
        self.assertEqual(set_trait(DECK, "leaf", "foot", "left", 5), one_more("leaf", fresh))
        fresh = ("top", (("ink", "x"),), None)
        self.assertEqual(set_trait(DECK, "mid", "top", "ink", "x"), one_more("mid", fresh))

    def test_the_places_stay_in_their_order(self):
        deck = set_trait(DECK, "leaf", "foot", "left", 5)
        for master in ("leaf", "mid", "base", "other"):
            self.assertEqual(places_of(deck[0], master), places_of(MASTERS, master))

    def test_several_by_and_by(self):
        deck = DECK
        for trait, worth in (("ink", "x"), ("left", 1), ("size", 3), ("top", 2), ("left", 4)):
            deck = set_trait(deck, "leaf", "foot", trait, worth)
        fresh = ("foot", (("left", 4), ("top", 2), ("size", 3), ("ink", "x")), None)
        self.assertEqual(deck, one_more("leaf", fresh))

    def test_worths_at_their_bounds(self):
        bounds = {"left": (-999, 999), "top": (-999, 999), "wide": (1, 999), "high": (1, 999), "size": (1, 99)}
        for trait, (low, high) in bounds.items():
            for worth in (low, high):
                deck = set_trait(DECK, "leaf", "side", trait, worth)
                self.assertEqual(worth_by(deck[0], "leaf", "side", trait), (worth, ("master", "leaf")))
            for worth in (low - 1, high + 1):
                self.assertRaises(NoWorth, set_trait, DECK, "leaf", "side", trait, worth)


class UnsetTraitTest(unittest.TestCase):
    def test_a_setting_taken_out(self):
        fresh = ("body", (("ink", "red"),), None)
        self.assertEqual(unset_trait(DECK, "mid", "body", "left"), with_own("mid", fresh))
        fresh = ("body", (("left", 7),), None)
        self.assertEqual(unset_trait(DECK, "mid", "body", "ink"), with_own("mid", fresh))
        own = place(MASTERS, "base", "top")
        fresh = (own[0], own[1][:2] + own[1][3:], own[2])
        self.assertEqual(unset_trait(DECK, "base", "top", "wide"), with_own("base", fresh))

    def test_the_place_stays_without_settings(self):
        fresh = ("top", (), ("leaf top", ""))
        self.assertEqual(unset_trait(DECK, "leaf", "top", "ink"), with_own("leaf", fresh))
        self.assertEqual(unset_trait(DECK, "mid", "foot", "size"), with_own("mid", ("foot", (), ("mid foot",))))

    def test_the_worth_is_then_that_of_the_next_over_it(self):
        deck = unset_trait(DECK, "leaf", "body", "left")
        self.assertEqual(worth_by(deck[0], "leaf", "body", "left"), (7, ("master", "mid")))


class PutPlaceTest(unittest.TestCase):
    def test_behind_the_masters_own(self):
        self.assertEqual(put_place(DECK, "leaf", "aa"), one_more("leaf", ("aa", (), None)))
        self.assertEqual(put_place(DECK, "other", "zoo"), one_more("other", ("zoo", (), None)))

    def test_a_place_of_another_chain(self):
        self.assertEqual(put_place(DECK, "leaf", "alone"), one_more("leaf", ("alone", (), None)))
        self.assertEqual(put_place(DECK, "other", "body"), one_more("other", ("body", (), None)))

    def test_a_place_of_a_master_below(self):
        self.assertEqual(put_place(DECK, "base", "side"), one_more("base", ("side", (), None)))
        self.assertEqual(put_place(DECK, "mid", "side"), one_more("mid", ("side", (), None)))


class TakePlaceTest(unittest.TestCase):
    def test_a_place_taken_out(self):
        for master in ("leaf", "mid", "base", "other"):
            for own in own_places(master):
                others = tuple(other for other in own_places(master) if other != own)
                with self.subTest(master=master, place=own[0]):
                    self.assertEqual(take_place(DECK, master, own[0]), expected(master, over_of(master), others))

    def test_a_place_that_a_master_over_it_has_too(self):
        deck = take_place(DECK, "leaf", "body")
        self.assertEqual(worth_by(deck[0], "leaf", "body", "left"), (7, ("master", "mid")))
        self.assertEqual(deck[1], SLIDES)


class SetTextTest(unittest.TestCase):
    def test_lines_in_the_place_of_lines(self):
        fresh = ("top", (("ink", "blue"),), ("fresh", ""))
        self.assertEqual(set_text(DECK, "leaf", "top", ("fresh", "")), with_own("leaf", fresh))

    def test_lines_in_the_place_of_none(self):
        fresh = ("body", (("left", 7), ("ink", "red")), ("fresh",))
        self.assertEqual(set_text(DECK, "mid", "body", ("fresh",)), with_own("mid", fresh))

    def test_none_in_the_place_of_lines(self):
        self.assertEqual(set_text(DECK, "leaf", "top", None), with_own("leaf", ("top", (("ink", "blue"),), None)))
        self.assertEqual(set_text(DECK, "mid", "note", None), with_own("mid", ("note", (), None)))

    def test_lines_of_none(self):
        self.assertEqual(set_text(DECK, "leaf", "top", ()), with_own("leaf", ("top", (("ink", "blue"),), ())))

    def test_a_place_that_only_a_master_over_it_has(self):
        self.assertEqual(set_text(DECK, "leaf", "foot", ("fresh",)), one_more("leaf", ("foot", (), ("fresh",))))
        self.assertEqual(set_text(DECK, "mid", "top", ()), one_more("mid", ("top", (), ())))

    def test_with_none_too_the_master_gets_the_place(self):
        deck = set_text(DECK, "leaf", "foot", None)
        self.assertEqual(deck, one_more("leaf", ("foot", (), None)))
        self.assertEqual(text_by(deck[0], "leaf", "foot"), (("mid foot",), "mid"))

    def test_twelve_lines_of_sixty_signs(self):
        lines = ("x" * 60,) * 12
        self.assertEqual(text_by(set_text(DECK, "leaf", "side", lines)[0], "leaf", "side"), (lines, "leaf"))


class LayUnderTest(unittest.TestCase):
    def test_under_another_one(self):
        self.assertEqual(lay_under(DECK, "leaf", "base"), expected("leaf", "base", own_places("leaf")))
        self.assertEqual(lay_under(DECK, "leaf", "other"), expected("leaf", "other", own_places("leaf")))
        self.assertEqual(lay_under(DECK, "base", "other"), expected("base", "other", own_places("base")))
        self.assertEqual(lay_under(DECK, "other", "leaf"), expected("other", "leaf", own_places("other")))

    def test_under_none(self):
        self.assertEqual(lay_under(DECK, "mid", None), expected("mid", None, own_places("mid")))
        self.assertEqual(lay_under(DECK, "base", None), DECK)

    def test_under_the_one_that_it_is_under(self):
        self.assertEqual(lay_under(DECK, "leaf", "mid"), DECK)

    def test_a_ring_of_one(self):
        for name in ("leaf", "mid", "base", "other"):
            self.assertRaises(Ring, lay_under, DECK, name, name)

    def test_a_ring_of_two(self):
        self.assertRaises(Ring, lay_under, DECK, "base", "mid")
        self.assertRaises(Ring, lay_under, DECK, "mid", "leaf")

    def test_a_ring_of_three(self):
        self.assertRaises(Ring, lay_under, DECK, "base", "leaf")

    def test_no_master_of_the_master(self):
        for name in NO_MASTERS:
            with self.subTest(kind=str(type(name))):
                self.assertRaises(NoMaster, lay_under, DECK, name, "base")
                self.assertRaises(NoMaster, lay_under, DECK, name, None)

    def test_no_master_of_the_over(self):
        for name in NO_MASTERS:
            if name is not None:
                with self.subTest(kind=str(type(name))):
                    self.assertRaises(NoMaster, lay_under, DECK, "base", name)
                    self.assertRaises(NoMaster, lay_under, DECK, name, name)

    def test_just_what_would_be_no_deck_is_refused(self):
        for number in range(40):
            (masters, slides), _ = some_deck(number)
            for name, _, places in masters:
                for over in [None] + [master[0] for master in masters]:
                    fresh = tuple((name, over, places) if known[0] == name else known for known in masters)
                    if fault_of((fresh, slides)) is None:
                        self.assertEqual(lay_under((masters, slides), name, over), (fresh, slides))
                    else:
                        self.assertRaises(Ring, lay_under, (masters, slides), name, over)


class RefusalTest(unittest.TestCase):
    """Each refusal alone, then the ones that are due at once."""

    def test_no_master_alone(self):
        for name in NO_MASTERS:
            with self.subTest(kind=str(type(name))):
                self.assertRaises(NoMaster, set_trait, DECK, name, "body", "left", 1)
                self.assertRaises(NoMaster, unset_trait, DECK, name, "body", "left")
                self.assertRaises(NoMaster, put_place, DECK, name, "fresh")
                self.assertRaises(NoMaster, take_place, DECK, name, "body")
                self.assertRaises(NoMaster, set_text, DECK, name, "body", ())

    def test_no_place_alone(self):
        for name in NO_PLACES:
            with self.subTest(kind=str(type(name))):
                self.assertRaises(NoPlace, set_trait, DECK, "leaf", name, "left", 1)
                self.assertRaises(NoPlace, unset_trait, DECK, "leaf", name, "left")
                self.assertRaises(NoPlace, take_place, DECK, "leaf", name)
                self.assertRaises(NoPlace, set_text, DECK, "leaf", name, ())
                self.assertRaises(NoPlace, set_text, DECK, "leaf", name, None)

    def test_no_place_of_put_place_is_what_is_no_name(self):
        for name in NO_NAMES:
            with self.subTest(kind=str(type(name))):
                self.assertRaises(NoPlace, put_place, DECK, "leaf", name)

    def test_a_place_of_a_master_over_it_is_none_of_its_own(self):
        self.assertRaises(NoPlace, unset_trait, DECK, "leaf", "foot", "size")
        self.assertRaises(NoPlace, unset_trait, DECK, "mid", "top", "left")
        self.assertRaises(NoPlace, take_place, DECK, "leaf", "foot")
        self.assertRaises(NoPlace, take_place, DECK, "mid", "top")

    def test_a_place_of_a_master_below_is_none(self):
        self.assertRaises(NoPlace, set_trait, DECK, "mid", "side", "left", 1)
        self.assertRaises(NoPlace, set_text, DECK, "base", "foot", ())
        self.assertRaises(NoPlace, unset_trait, DECK, "base", "foot", "size")
        self.assertRaises(NoPlace, take_place, DECK, "mid", "side")

    def test_taken_alone(self):
        for name in ("top", "body", "note", "foot", "side"):
            with self.subTest(name):
                self.assertRaises(Taken, put_place, DECK, "leaf", name)
        self.assertRaises(Taken, put_place, DECK, "mid", "top")
        self.assertRaises(Taken, put_place, DECK, "other", "alone")

    def test_eight_places_and_a_ninth_one(self):
        self.assertEqual(put_place(full(7), "m", "more")[0][0][2][7], ("more", (), None))
        self.assertEqual(set_trait(full(7), "m", "above", "left", 1)[0][0][2][7], ("above", (("left", 1),), None))
        self.assertEqual(set_text(full(7), "m", "above", ("x",))[0][0][2][7], ("above", (), ("x",)))
        self.assertRaises(TooMany, put_place, full(8), "m", "more")
        self.assertRaises(TooMany, set_trait, full(8), "m", "above", "left", 1)
        self.assertRaises(TooMany, set_text, full(8), "m", "above", ("x",))
        self.assertRaises(TooMany, set_text, full(8), "m", "above", None)

    def test_eight_places_of_which_one_is_changed(self):
        self.assertEqual(set_trait(full(8), "m", "p7", "left", 1)[0][0][2][7], ("p7", (("left", 1),), None))
        self.assertEqual(set_text(full(8), "m", "p0", ("x",))[0][0][2][0], ("p0", (), ("x",)))
        self.assertEqual(len(take_place(full(8), "m", "p3")[0][0][2]), 7)

    def test_eight_places_of_a_master_over_it_are_not_its_own(self):
        masters, slides = full(8)
        deck = (masters + (("low", "m", ()),), slides)
        self.assertEqual(put_place(deck, "low", "more")[0][2][2], (("more", (), None),))
        self.assertEqual(set_trait(deck, "low", "p0", "left", 1)[0][2][2], (("p0", (("left", 1),), None),))

    def test_no_trait_alone(self):
        for trait in NO_TRAITS:
            with self.subTest(kind=str(type(trait))):
                self.assertRaises(NoTrait, set_trait, DECK, "leaf", "body", trait, 1)
                self.assertRaises(NoTrait, set_trait, DECK, "leaf", "foot", trait, 1)
                self.assertRaises(NoTrait, unset_trait, DECK, "leaf", "body", trait)

    def test_no_worth_alone(self):
        for trait in TRAITS:
            for worth in STRANGE + (None, "", "1", (), (1,), [1], "red" if trait != "ink" else 1):
                with self.subTest(trait=trait, kind=str(type(worth))):
                    self.assertRaises(NoWorth, set_trait, DECK, "leaf", "body", trait, worth)
                    self.assertRaises(NoWorth, set_trait, DECK, "leaf", "foot", trait, worth)

    def test_no_lines(self):
        for lines in NO_LINES:
            with self.subTest(kind=str(type(lines))):
                self.assertRaises(NoWorth, set_text, DECK, "leaf", "body", lines)
                self.assertRaises(NoWorth, set_text, DECK, "leaf", "foot", lines)

    def test_no_setting_alone(self):
        for trait in ("top", "wide", "high", "size"):
            self.assertRaises(NoSetting, unset_trait, DECK, "mid", "body", trait)
        for trait in TRAITS:
            self.assertRaises(NoSetting, unset_trait, DECK, "leaf", "side", trait)

    def test_a_setting_of_a_master_over_it_is_none_of_the_own_place(self):
        self.assertRaises(NoSetting, unset_trait, DECK, "leaf", "body", "ink")

    def test_due_at_once_of_set_trait(self):
        crowded = full(8)
        for bad in OTHERS + ("none",):
            with self.subTest(kind=str(type(bad))):
                self.assertRaises(NoMaster, set_trait, DECK, bad, bad, bad, bad)
                self.assertRaises(NoMaster, set_trait, DECK, bad, bad, "left", 1)
                self.assertRaises(NoMaster, set_trait, DECK, bad, "body", bad, 1)
                self.assertRaises(NoMaster, set_trait, DECK, bad, "body", "wide", False)
                self.assertRaises(NoPlace, set_trait, DECK, "leaf", bad, bad, bad)
                self.assertRaises(NoPlace, set_trait, DECK, "leaf", bad, bad, 1)
                self.assertRaises(NoPlace, set_trait, DECK, "leaf", bad, "wide", False)
                self.assertRaises(NoPlace, set_trait, crowded, "m", bad, "left", 1)
                self.assertRaises(TooMany, set_trait, crowded, "m", "above", bad, bad)
                self.assertRaises(TooMany, set_trait, crowded, "m", "above", bad, 1)
                self.assertRaises(TooMany, set_trait, crowded, "m", "above", "wide", False)
                self.assertRaises(NoTrait, set_trait, DECK, "leaf", "body", bad, bad)

    def test_due_at_once_of_unset_trait(self):
        for bad in OTHERS + ("none",):
            with self.subTest(kind=str(type(bad))):
                self.assertRaises(NoMaster, unset_trait, DECK, bad, bad, bad)
                self.assertRaises(NoMaster, unset_trait, DECK, bad, bad, "left")
                self.assertRaises(NoMaster, unset_trait, DECK, bad, "body", bad)
                self.assertRaises(NoMaster, unset_trait, DECK, bad, "side", "left")
                self.assertRaises(NoPlace, unset_trait, DECK, "leaf", bad, bad)
                self.assertRaises(NoTrait, unset_trait, DECK, "leaf", "side", bad)

    def test_due_at_once_of_put_place(self):
        crowded = full(8)
        for bad in OTHERS:
            with self.subTest(kind=str(type(bad))):
                self.assertRaises(NoMaster, put_place, DECK, bad, bad)
                self.assertRaises(NoMaster, put_place, DECK, bad, "body")
                self.assertRaises(NoPlace, put_place, crowded, "m", bad)
        self.assertRaises(Taken, put_place, crowded, "m", "p0")
        self.assertRaises(Taken, put_place, crowded, "m", "above")

    def test_due_at_once_of_take_place(self):
        for bad in OTHERS + ("none",):
            with self.subTest(kind=str(type(bad))):
                self.assertRaises(NoMaster, take_place, DECK, bad, bad)

    def test_due_at_once_of_set_text(self):
        crowded = full(8)
        for bad in NO_LINES:
            with self.subTest(kind=str(type(bad))):
                self.assertRaises(NoMaster, set_text, DECK, bad, bad, bad)
                self.assertRaises(NoMaster, set_text, DECK, bad, "body", bad)
                self.assertRaises(NoMaster, set_text, DECK, bad, bad, ())
                self.assertRaises(NoPlace, set_text, DECK, "leaf", bad, bad)
                self.assertRaises(NoPlace, set_text, crowded, "m", bad, ())
                self.assertRaises(TooMany, set_text, crowded, "m", "above", bad)

    def test_due_at_once_of_lay_under(self):
        self.assertRaises(NoMaster, lay_under, DECK, "none", "none")
        self.assertRaises(NoMaster, lay_under, DECK, "none", "nought")


class NothingElseTest(unittest.TestCase):
    """On decks made by chance: nothing else is changed, and what is told is a deck."""

    def changes(self, deck, chance):
        """What each change tells, with the name of the master that it changes."""
        for master, _, own in deck[0]:
            for known in places_of(deck[0], master):
                trait = chance.choice(TRAITS)
                yield master, set_trait(deck, master, known, trait, some_worth(chance, trait))
                yield master, set_text(deck, master, known, chance.choice((None, some_lines(chance))))
            for name, settings, _ in own:
                yield master, take_place(deck, master, name)
                for trait, _ in settings:
                    yield master, unset_trait(deck, master, name, trait)
            for fresh in NAMES + ("z",):
                if fresh not in places_of(deck[0], master):
                    yield master, put_place(deck, master, fresh)

    def test_nothing_else_is_changed(self):
        for number in range(40):
            deck, chance = some_deck(number)
            again, _ = some_deck(number)
            for master, told in self.changes(deck, chance):
                self.assertIsNone(fault_of(told))
                self.assertIs(type(told), tuple)
                self.assertEqual(told[1], deck[1])
                self.assertEqual([known[:2] for known in told[0]], [known[:2] for known in deck[0]])
                for ahead, behind in zip(deck[0], told[0]):
                    if ahead[0] != master:
                        self.assertEqual(behind, ahead)
                self.assertEqual(chain_of(told[0], master), chain_of(deck[0], master))
            self.assertEqual(deck, again)

    def test_one_place_of_the_master_is_changed(self):
        for number in range(40):
            deck, chance = some_deck(number)
            for master, told in self.changes(deck, chance):
                ahead = {own[0]: own for known in deck[0] if known[0] == master for own in known[2]}
                behind = {own[0]: own for known in told[0] if known[0] == master for own in known[2]}
                unlike = [name for name in {**ahead, **behind} if ahead.get(name) != behind.get(name)]
                self.assertLessEqual(len(unlike), 1)
                both = [name for name in ahead if name in behind]
                self.assertEqual([name for name in behind if name in ahead], both)
                self.assertEqual(list(behind)[: len(both)], both)
