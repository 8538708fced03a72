"""Promises 2 and 3, as they hold over masters, slides, their changes and what is seen of them."""

import unittest

from mastershow.changes import (
    by_hand,
    fill_place,
    lay_slide,
    lay_under,
    let_go,
    put_place,
    set_text,
    set_trait,
    take_place,
    unset_trait,
)
from mastershow.deeds import done_deed
from mastershow.errors import DeckError, Ring
from mastershow.handouts import handouts
from mastershow.lines import laid_at, lines_at, rows_of, shrunk_to
from mastershow.masters import places_of
from mastershow.notes import notes_of, notes_pages
from mastershow.numbers import at_number, found_lines, number_of, outline_of
from mastershow.pictures import picture_of, seen_at
from mastershow.shows import Show
from mastershow.steps import groups_of, times_of
from mastershow.touches import touched_by
from mastershow.worths import sheet_of, strays_of, worth_at
from tests.random_decks import TRAITS, some_deck, some_worth
from tests.random_deeds import deed_at_master
from tests.things import DECK

MANY = 30


def sheets(deck):
    """Where each worth at each slide comes from: a dict from (slide, place, trait) to (worth, source)."""
    told = {}
    for slide in deck[1]:
        for place, trait, worth, source in sheet_of(deck, slide[0]):
            told[slide[0], place, trait] = (worth, source)
    return told


def hands_of(deck):
    return {slide[0]: slide[2] for slide in deck[1]}


class SettingTest(unittest.TestCase):
    """A setting that a master gets or loses changes just those worths that came from it or come from it now."""

    def check(self, ahead, behind, master, place, trait):
        before, now = sheets(ahead), sheets(behind)
        self.assertEqual(list(before), list(now))
        for key, told in before.items():
            if told != now[key]:
                self.assertEqual(key[1:], (place, trait))
                self.assertIn(("master", master), (told[1], now[key][1]))
        return now

    def test_a_setting_that_a_master_gets(self):
        for number in range(MANY):
            deck, chance = some_deck(number)
            for master, _, _ in deck[0]:
                for place in places_of(deck[0], master):
                    trait = chance.choice(TRAITS)
                    worth = some_worth(chance, trait)
                    now = self.check(deck, set_trait(deck, master, place, trait, worth), master, place, trait)
                    for key, told in now.items():
                        if key[1:] == (place, trait) and told[1] == ("master", master):
                            self.assertEqual(told[0], worth)

    def test_a_setting_that_a_master_loses(self):
        for number in range(MANY):
            deck, _ = some_deck(number)
            for master, _, places in deck[0]:
                for place, settings, _ in places:
                    for trait, _ in settings:
                        self.check(deck, unset_trait(deck, master, place, trait), master, place, trait)

    def test_a_setting_got_and_lost(self):
        for number in range(MANY):
            deck, chance = some_deck(number)
            for master, _, places in deck[0]:
                for place, settings, _ in places:
                    for trait in TRAITS:
                        if trait not in [known for known, _ in settings]:
                            there = set_trait(deck, master, place, trait, some_worth(chance, trait))
                            self.assertEqual(unset_trait(there, master, place, trait), deck)


class ByHandTest(unittest.TestCase):
    """What was set by hand stays through all changes of masters, also while no place of its name is there."""

    def check_hands(self, deck, fresh):
        self.assertEqual(hands_of(fresh), hands_of(deck))
        for name, master, hands, *_ in fresh[1]:
            told = sheet_of(fresh, name)
            strays = strays_of(fresh, name)
            for hand in hands:
                self.assertNotEqual((*hand, ("hand",)) in told, hand[0] in strays)

    def test_through_changes_of_masters(self):
        for number in range(MANY):
            deck, chance = some_deck(number)
            for master, _, places in deck[0]:
                for place in places_of(deck[0], master):
                    trait = chance.choice(TRAITS)
                    self.check_hands(deck, set_trait(deck, master, place, trait, some_worth(chance, trait)))
                    self.check_hands(deck, set_text(deck, master, place, ("text",)))
                for place, settings, _ in places:
                    self.check_hands(deck, take_place(deck, master, place))
                    for trait, _ in settings:
                        self.check_hands(deck, unset_trait(deck, master, place, trait))
                self.check_hands(deck, put_place(deck, master, "fresh"))
                self.check_hands(deck, lay_under(deck, master, None))
                for slide in deck[1]:
                    self.check_hands(deck, lay_slide(deck, slide[0], master))

    def test_through_all_overs(self):
        for number in range(MANY):
            deck, _ = some_deck(number)
            for master, _, _ in deck[0]:
                for over, _, _ in deck[0]:
                    try:
                        fresh = lay_under(deck, master, over)
                    except Ring:
                        continue
                    self.check_hands(deck, fresh)

    def test_through_deeds_at_masters(self):
        words = "set unset place unplace text over master drop".split()
        for number in range(MANY):
            deck, chance = some_deck(number)
            for _ in range(30):
                try:
                    fresh = done_deed(deck, deed_at_master(chance, deck, chance.choice(words)))
                except DeckError:
                    continue
                self.check_hands(deck, fresh)
                deck = fresh

    def test_through_a_master_renamed(self):
        for number in range(MANY):
            deck, _ = some_deck(number)
            for master, _, _ in deck[0]:
                fresh = done_deed(deck, ("rename", master, "fresh"))
                self.check_hands(deck, fresh)
                self.assertEqual(touched_by(deck, fresh), [])

    def test_while_no_place_of_its_name_is_there(self):
        gone = take_place(DECK, "other", "alone")
        self.assertEqual(strays_of(gone, "three"), ["alone", "body"])
        back = put_place(gone, "other", "alone")
        self.assertEqual(worth_at(back, "three", "alone", "high"), (2, ("hand",)))
        self.assertEqual(strays_of(back, "three"), ["body"])

    def test_under_another_master_and_back(self):
        away = lay_slide(DECK, "one", "other")
        self.assertEqual(strays_of(away, "one"), ["body", "foot", "gone", "lost", "note", "side", "top", "void", "where"])
        self.assertEqual(lay_slide(away, "one", "leaf"), DECK)


class SameTest(unittest.TestCase):
    """Nothing that is handed in is changed, and whoever asks the same is told the same."""

    def ask(self, deck):
        return [
            [sheet_of(deck, slide[0]) for slide in deck[1]],
            [strays_of(deck, slide[0]) for slide in deck[1]],
            set_trait(deck, "leaf", "foot", "left", 5),
            set_text(deck, "leaf", "foot", ("x",)),
            unset_trait(deck, "leaf", "body", "left"),
            put_place(deck, "leaf", "fresh"),
            take_place(deck, "leaf", "body"),
            lay_under(deck, "leaf", "other"),
            by_hand(deck, "one", "foot", "left", 5),
            let_go(deck, "one", "body", "left"),
            fill_place(deck, "one", "foot", ("x",)),
            fill_place(deck, "one", "body", None),
            lay_slide(deck, "one", "base"),
            [lines_at(deck, "one", place) for place in ("top", "body", "note", "foot", "side")],
            [laid_at(deck, "one", place) for place in ("top", "body", "note", "foot", "side")],
            [groups_of(slide[4]) for slide in deck[1]],
            [times_of(slide[4]) for slide in deck[1]],
            [picture_of(deck, "one", presses, None) for presses in (0, 1, 2)],
            [seen_at(deck, "one", presses, None) for presses in (0, 1, 2)],
            [self.gone_through(Show(deck, None))],
            [number_of(deck, slide[0]) for slide in deck[1]],
            [at_number(deck, number) for number in (1, 2, 3)],
            outline_of(deck, "body"),
            found_lines(deck, "one"),
            notes_of(deck),
            notes_pages(deck, "one", 5, 2),
            handouts(deck, 2, 1, (60, 40, 2)),
            [done_deed(deck, deed) for deed in self.deeds(deck)],
        ]

    def deeds(self, deck):
        return [
            ("master", ("fresh", "leaf", ())),
            ("rename", "leaf", "fresh"),
            ("add", 1, ("fresh",) + deck[1][0][1:]),
            ("take", "two"),
            ("go", "one", 3),
            ("call", "three", "fresh"),
            ("hide", "one", 1),
            ("note", "one", "notes"),
            ("steps", "one", ()),
            ("links", "one", ()),
        ]

    def gone_through(self, show):
        told = [(show.where(), show.trail(), show.picture_now(1))]
        while show.on():
            told.append((show.where(), show.trail(), show.picture_now(1)))
        return told

    def test_the_same_is_told_again(self):
        whole = repr(DECK)
        first = self.ask(DECK)
        self.assertEqual(self.ask(DECK), first)
        self.assertEqual(repr(DECK), whole)

    def test_a_told_list_changed_changes_no_later_answer(self):
        first = repr(self.ask(DECK))
        for told in self.ask(DECK):
            for rows in told:
                if isinstance(rows, list):
                    rows.clear()
        sheet_of(DECK, "one").reverse()
        strays_of(DECK, "one").append("more")
        self.assertEqual(repr(self.ask(DECK)), first)

    def test_lines_handed_in_are_not_changed(self):
        lines = ["one two three", "", " four "]
        first = rows_of(lines, 4), shrunk_to(lines, 9, 9, 9)
        self.assertEqual(lines, ["one two three", "", " four "])
        self.assertEqual((rows_of(lines, 4), shrunk_to(lines, 9, 9, 9)), first)


class SeenTest(unittest.TestCase):
    """Lines parted in rows lose no word, and fit where it is told that they do."""

    def test_lines_as_they_are_laid(self):
        for number in range(MANY):
            deck, _ = some_deck(number)
            for slide in deck[1]:
                for place in places_of(deck[0], slide[1]):
                    laid = laid_at(deck, slide[0], place)
                    if laid is not None:
                        self.check(laid, deck, slide[0], place)

    def check(self, laid, deck, slide, place):
        size, rows = laid
        wide, high = [worth_at(deck, slide, place, trait)[0] for trait in ("wide", "high")]
        signs = "".join("".join(lines_at(deck, slide, place)).split(" "))
        self.assertEqual("".join("".join(rows).split(" ")), signs)
        self.assertLessEqual(size * len(rows), high)
        self.assertLessEqual(size * max(map(len, rows), default=1), wide)
