"""Promise 10: what is handed in as a deck, and is none, is refused with NoDeck, ahead of all else."""

import unittest

from mastershow import (
    bringing,
    changes,
    deeds,
    handouts,
    keepers,
    lines,
    notes,
    numbers,
    pictures,
    shows,
    texts,
    touches,
    worths,
)
from mastershow.errors import NoDeck
from tests.things import DECK, NO_DECKS

# Each function that is handed a deck, with what else it is handed where all is well.
CALLS = (
    (worths.worth_at, ("one", "body", "left")),
    (worths.sheet_of, ("one",)),
    (worths.strays_of, ("one",)),
    (changes.set_trait, ("leaf", "body", "left", 1)),
    (changes.unset_trait, ("leaf", "body", "left")),
    (changes.put_place, ("leaf", "fresh")),
    (changes.take_place, ("leaf", "body")),
    (changes.set_text, ("leaf", "body", ("line",))),
    (changes.lay_under, ("leaf", None)),
    (changes.by_hand, ("one", "body", "left", 1)),
    (changes.let_go, ("one", "body", "left")),
    (changes.fill_place, ("one", "body", ("line",))),
    (changes.lay_slide, ("one", "base")),
    (touches.touched_by, (DECK,)),
    (lines.lines_at, ("one", "body")),
    (lines.laid_at, ("one", "body")),
    (pictures.picture_of, ("one", 1, None)),
    (pictures.seen_at, ("one", 1, None)),
    (shows.Show, (None,)),
    (numbers.number_of, ("one",)),
    (numbers.at_number, (1,)),
    (numbers.outline_of, ("body",)),
    (numbers.found_lines, ("word",)),
    (notes.notes_of, ()),
    (notes.notes_pages, ("one", 1, 1)),
    (handouts.handouts, (1, 1, (4, 3, 0))),
    (deeds.done_deed, (("hide", "one", 1),)),
    (keepers.Keeper, ()),
    (bringing.brought_in, (DECK, ["one"], 0)),
    (texts.text_of, ()),
)


class NoDeckTest(unittest.TestCase):
    def test_a_deck_is_not_refused(self):
        for function, others in CALLS:
            with self.subTest(function.__name__):
                function(DECK, *others)

    def test_no_deck_alone(self):
        for function, others in CALLS:
            for thing in NO_DECKS:
                with self.subTest(function.__name__, kind=str(type(thing))):
                    self.assertRaises(NoDeck, function, thing, *others)

    def test_no_deck_goes_ahead_of_all_else(self):
        for function, others in CALLS:
            for thing in NO_DECKS:
                for bad in (None, "None", 0, object()):
                    with self.subTest(function.__name__, kind=str(type(thing))):
                        self.assertRaises(NoDeck, function, thing, *[bad for _ in others])

    def test_no_deck_of_the_other_deck(self):
        for thing in NO_DECKS:
            with self.subTest(kind=str(type(thing))):
                self.assertRaises(NoDeck, touches.touched_by, DECK, thing)
                self.assertRaises(NoDeck, touches.touched_by, thing, thing)
