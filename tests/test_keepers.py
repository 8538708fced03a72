"""Promise 31: keepers, which do deeds, take them back and do them again."""

import unittest

from mastershow.deeds import done_deed
from mastershow.errors import DeckError, NoDeck, NoDeed, NoMaster, NoPlace, NoSlide, Taken, Used
from mastershow.keepers import Keeper
from mastershow.touches import touched_by
from tests.random_decks import some_deck
from tests.random_deeds import some_deed
from tests.things import DECK, MASTERS, NO_DECKS, ONE, SLIDES, STRANGE, bare

DEEDS = (
    ("set", "base", "body", "top", 5),
    ("hand", "one", "body", "left", 9),
    ("under", "four", "base"),
    ("note", "two", "notes"),
    ("call", "two", "fresh"),
    ("take", "four"),
)
REFUSED = (
    (NoDeed, ("none",)),
    (NoDeed, None),
    (NoMaster, ("drop", "none")),
    (Used, ("take", "one")),
    (NoSlide, ("take", "none")),
    (NoPlace, ("hand", "one", "none", "left", 1)),
    (Taken, ("rename", "leaf", "mid")),
)


def decks_behind(deck, deeds):
    """The deck ahead of the deeds, and the one behind each."""
    decks = [deck]
    for deed in deeds:
        decks.append(done_deed(decks[-1], deed))
    return decks


class KeeperTest(unittest.TestCase):
    def test_it_keeps_the_deck(self):
        self.assertEqual(Keeper(DECK).deck(), DECK)
        self.assertEqual(Keeper((MASTERS, ())).deck(), (MASTERS, ()))

    def test_deeds_done_taken_back_and_done_again(self):
        decks = decks_behind(DECK, DEEDS)
        keeper = Keeper(DECK)
        for k, deed in enumerate(DEEDS):
            self.assertEqual(keeper.do(deed), touched_by(decks[k], decks[k + 1]))
            self.assertEqual(keeper.deck(), decks[k + 1])
        for k in reversed(range(len(DEEDS))):
            self.assertEqual(keeper.undo(), touched_by(decks[k + 1], decks[k]))
            self.assertEqual(keeper.deck(), decks[k])
        for k in range(len(DEEDS)):
            self.assertEqual(keeper.again(), touched_by(decks[k], decks[k + 1]))
            self.assertEqual(keeper.deck(), decks[k + 1])

    def test_one_deed_taken_back_and_done_again_many_times(self):
        keeper = Keeper(DECK)
        keeper.do(DEEDS[0])
        for _ in range(20):
            keeper.undo()
            self.assertEqual(keeper.deck(), DECK)
            keeper.again()
            self.assertEqual(keeper.deck(), done_deed(DECK, DEEDS[0]))

    def test_what_is_told(self):
        keeper = Keeper(DECK)
        told = [(slide, "body", "top") for slide in ("one", "two", "four")]
        self.assertEqual(keeper.do(DEEDS[0]), told)
        self.assertEqual(keeper.undo(), told)
        self.assertEqual(keeper.again(), told)
        self.assertEqual(keeper.do(("note", "one", "")), [])

    def test_what_is_told_of_places_more_and_fewer(self):
        """The order of what undo tells is that of the deck behind the deed."""
        keeper = Keeper(DECK)
        ahead, behind = DECK, done_deed(DECK, ("under", "three", "mid"))
        told = keeper.do(("under", "three", "mid"))
        self.assertEqual(told, touched_by(ahead, behind))
        self.assertEqual(keeper.undo(), touched_by(behind, ahead))
        self.assertNotEqual(touched_by(behind, ahead), told)
        self.assertEqual(keeper.again(), told)

    def test_a_deed_that_leaves_the_deck_as_it_was(self):
        keeper = Keeper(DECK)
        keeper.do(DEEDS[0])
        first = keeper.deck()
        self.assertEqual(keeper.do(("call", "one", "one")), [])
        self.assertEqual(keeper.deck(), first)
        self.assertEqual(keeper.undo(), [])
        self.assertEqual(keeper.deck(), first)
        self.assertEqual(keeper.again(), [])
        keeper.undo()
        keeper.undo()
        self.assertEqual(keeper.deck(), DECK)
        self.assertRaises(NoDeed, keeper.undo)

    def test_a_deed_that_leaves_the_deck_as_it_was_behind_an_undo(self):
        keeper = Keeper(DECK)
        keeper.do(DEEDS[0])
        keeper.undo()
        keeper.do(("hide", "one", 0))
        self.assertRaises(NoDeed, keeper.again)
        self.assertEqual(keeper.deck(), DECK)

    def test_a_deed_behind_an_undo(self):
        keeper = Keeper(DECK)
        keeper.do(DEEDS[0])
        keeper.do(DEEDS[1])
        keeper.undo()
        keeper.do(DEEDS[2])
        self.assertRaises(NoDeed, keeper.again)
        self.assertEqual(keeper.deck(), done_deed(done_deed(DECK, DEEDS[0]), DEEDS[2]))
        keeper.undo()
        self.assertEqual(keeper.deck(), done_deed(DECK, DEEDS[0]))
        keeper.undo()
        self.assertEqual(keeper.deck(), DECK)

    def test_an_again_is_no_deed(self):
        decks = decks_behind(DECK, DEEDS)
        keeper = Keeper(DECK)
        for deed in DEEDS:
            keeper.do(deed)
        for _ in range(3):
            keeper.undo()
        for k in (4, 5, 6):
            keeper.again()
            self.assertEqual(keeper.deck(), decks[k])
        self.assertRaises(NoDeed, keeper.again)

    def test_an_undo_behind_an_again(self):
        decks = decks_behind(DECK, DEEDS[:2])
        keeper = Keeper(DECK)
        for deed in DEEDS[:2]:
            keeper.do(deed)
        keeper.undo()
        keeper.undo()
        keeper.again()
        keeper.undo()
        self.assertEqual(keeper.deck(), DECK)
        keeper.again()
        keeper.again()
        self.assertEqual(keeper.deck(), decks[2])

    def test_undo_and_again_where_there_is_none(self):
        keeper = Keeper(DECK)
        self.assertRaises(NoDeed, keeper.undo)
        self.assertRaises(NoDeed, keeper.again)
        keeper.do(DEEDS[0])
        self.assertRaises(NoDeed, keeper.again)
        keeper.undo()
        self.assertRaises(NoDeed, keeper.undo)
        keeper.again()
        self.assertRaises(NoDeed, keeper.again)
        self.assertEqual(keeper.deck(), done_deed(DECK, DEEDS[0]))

    def test_a_refused_deed_changes_nothing(self):
        for error, deed in REFUSED:
            keeper = Keeper(DECK)
            keeper.do(DEEDS[0])
            keeper.do(DEEDS[1])
            keeper.undo()
            there = keeper.deck()
            self.assertRaises(error, keeper.do, deed)
            self.assertEqual(keeper.deck(), there)
            keeper.again()
            self.assertEqual(keeper.deck(), done_deed(done_deed(DECK, DEEDS[0]), DEEDS[1]))
            self.assertRaises(error, keeper.do, deed)
            keeper.undo()
            keeper.undo()
            self.assertEqual(keeper.deck(), DECK)
            self.assertRaises(NoDeed, keeper.undo)

    def test_a_refused_undo_and_again_change_nothing(self):
        keeper = Keeper(DECK)
        keeper.do(DEEDS[0])
        self.assertRaises(NoDeed, keeper.again)
        keeper.undo()
        self.assertRaises(NoDeed, keeper.undo)
        keeper.again()
        self.assertEqual(keeper.deck(), done_deed(DECK, DEEDS[0]))

    def test_no_deed_whatever_it_is(self):
        keeper = Keeper(DECK)
        for thing in STRANGE + (None, 0, "", (), []):
            with self.subTest(kind=str(type(thing))):
                self.assertRaises(NoDeed, keeper.do, thing)
        self.assertRaises(NoDeed, keeper.undo)

    def test_a_told_list_changed(self):
        keeper = Keeper(DECK)
        told = [keeper.do(DEEDS[0]), keeper.undo(), keeper.again()]
        self.assertEqual({type(rows) for rows in told}, {list})
        self.assertEqual({type(row) for rows in told for row in rows}, {tuple})
        expected = list(told[0])
        for rows in told:
            rows.clear()
        self.assertEqual(keeper.undo(), expected)
        self.assertEqual(keeper.again(), expected)

    def test_two_keepers_of_one_deck(self):
        first, other = Keeper(DECK), Keeper(DECK)
        first.do(DEEDS[0])
        self.assertEqual(other.deck(), DECK)
        self.assertRaises(NoDeed, other.undo)
        other.do(DEEDS[1])
        first.undo()
        self.assertEqual(first.deck(), DECK)
        self.assertEqual(other.deck(), done_deed(DECK, DEEDS[1]))

    def test_the_deck_handed_in_as_it_was(self):
        deck = (MASTERS, SLIDES)
        whole = repr(deck)
        keeper = Keeper(deck)
        for deed in DEEDS:
            keeper.do(deed)
        self.assertEqual(repr(deck), whole)

    def test_two_hundred_deeds_and_more(self):
        deck = (MASTERS, (ONE, bare("three")))
        keeper = Keeper(deck)
        for k in range(250):
            keeper.do(("note", "one", f"notes {k}"))
        for k in reversed(range(250)):
            self.assertEqual(keeper.deck()[1][0][7], f"notes {k}")
            keeper.undo()
        self.assertEqual(keeper.deck(), deck)
        self.assertRaises(NoDeed, keeper.undo)
        for k in range(250):
            keeper.again()
        self.assertEqual(keeper.deck()[1][0][7], "notes 249")
        self.assertRaises(NoDeed, keeper.again)

    def test_no_deck(self):
        for thing in NO_DECKS:
            with self.subTest(kind=str(type(thing))):
                self.assertRaises(NoDeck, Keeper, thing)


class ChanceTest(unittest.TestCase):
    """What is undone is as it was."""

    def test_any_way(self):
        for number in range(60):
            deck, chance = some_deck(number)
            keeper = Keeper(deck)
            decks, at = [deck], 0
            for _ in range(60):
                going = chance.choice(("do", "do", "undo", "again"))
                if going == "do":
                    try:
                        keeper.do(some_deed(chance, decks[at]))
                    except DeckError:
                        self.assertEqual(keeper.deck(), decks[at])
                        continue
                    at += 1
                    decks[at:] = [keeper.deck()]
                elif (going == "undo" and at == 0) or (going == "again" and at + 1 == len(decks)):
                    self.assertRaises(NoDeed, getattr(keeper, going))
                else:
                    ahead = decks[at]
                    at += {"undo": -1, "again": 1}[going]
                    self.assertEqual(getattr(keeper, going)(), touched_by(ahead, decks[at]))
                self.assertEqual(keeper.deck(), decks[at])
