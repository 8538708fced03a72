"""Promise 25: the numbers of the slides that are not hidden."""

import unittest

from mastershow.errors import NoNumber, NoSlide
from mastershow.numbers import at_number, number_of
from tests.random_decks import some_deck
from tests.things import DECK, MASTERS, STRANGE, bare

OTHERS = STRANGE + (None, "", (), [], ("one",), ["one"])
NO_SLIDES = OTHERS + (0, 1, "five", "One", "one ", "on", "ones", "leaf", "body")
NO_NUMBERS = OTHERS + (0, -1, "1", "one", (1,), [1], 10**59, -(10**59))


def deck_of(*hidden):
    """A deck of slides s0, s1 and so on, hidden or not."""
    return (MASTERS, tuple(bare(f"s{k}", hidden=one) for k, one in enumerate(hidden)))


class NumberOfTest(unittest.TestCase):
    def check(self, hidden, numbers):
        """The numbers told of all slides, and each slide told of its number."""
        deck = deck_of(*hidden)
        self.assertEqual([number_of(deck, f"s{k}") for k in range(len(hidden))], numbers)
        for k, number in enumerate(numbers):
            if number is not None:
                self.assertEqual(at_number(deck, number), f"s{k}")
        many = len(hidden) - sum(hidden)
        self.assertRaises(NoNumber, at_number, deck, many + 1)
        self.assertRaises(NoNumber, at_number, deck, 0)

    def test_none_hidden(self):
        self.check((0, 0, 0), [1, 2, 3])
        self.check((0,), [1])

    def test_hidden_at_the_begin(self):
        self.check((1, 0, 0), [None, 1, 2])
        self.check((1, 1, 0), [None, None, 1])

    def test_hidden_between(self):
        self.check((0, 1, 0), [1, None, 2])
        self.check((0, 1, 0, 1, 1, 0), [1, None, 2, None, None, 3])

    def test_hidden_at_the_end(self):
        self.check((0, 0, 1), [1, 2, None])
        self.check((0, 1, 1), [1, None, None])

    def test_all_hidden(self):
        self.check((1, 1, 1), [None, None, None])
        self.check((1,), [None])

    def test_no_slides(self):
        self.check((), [])

    def test_forty_slides(self):
        self.check((0,) * 40, list(range(1, 41)))
        self.check((1, 0) * 20, [None if k % 2 == 0 else k // 2 + 1 for k in range(40)])

    def test_the_deck_of_the_tests(self):
        self.assertEqual([number_of(DECK, name) for name in ("one", "two", "three", "four")], [1, None, 2, 3])
        self.assertEqual([at_number(DECK, number) for number in (1, 2, 3)], ["one", "three", "four"])

    def test_whole_numbers_are_told(self):
        self.assertIs(type(number_of(DECK, "one")), int)
        self.assertIs(type(at_number(DECK, 1)), str)

    def test_the_order_is_the_decks(self):
        masters, slides = DECK
        turned = (masters, slides[::-1])
        self.assertEqual([number_of(turned, name) for name in ("one", "two", "three", "four")], [3, None, 2, 1])

    def test_decks_made_by_chance(self):
        for number in range(60):
            deck, _ = some_deck(number)
            numbers = [number_of(deck, slide[0]) for slide in deck[1]]
            told = [one for one in numbers if one is not None]
            self.assertEqual(told, list(range(1, len(told) + 1)))
            self.assertEqual([one is None for one in numbers], [slide[6] == 1 for slide in deck[1]])
            self.assertEqual([number_of(deck, at_number(deck, one)) for one in told], told)


class RefusalTest(unittest.TestCase):
    def test_no_slide(self):
        for thing in NO_SLIDES:
            with self.subTest(kind=str(type(thing))):
                self.assertRaises(NoSlide, number_of, DECK, thing)
        self.assertRaises(NoSlide, number_of, (MASTERS, ()), "one")

    def test_no_number(self):
        for thing in NO_NUMBERS + (4, 5, 40):
            with self.subTest(kind=str(type(thing))):
                self.assertRaises(NoNumber, at_number, DECK, thing)

    def test_no_number_where_there_is_none(self):
        for deck in ((MASTERS, ()), deck_of(1), deck_of(1, 1)):
            for thing in NO_NUMBERS + (1, 2):
                with self.subTest(kind=str(type(thing))):
                    self.assertRaises(NoNumber, at_number, deck, thing)

    def test_true_is_no_number(self):
        self.assertRaises(NoNumber, at_number, deck_of(0), True)
        self.assertRaises(NoNumber, at_number, deck_of(0), False)
