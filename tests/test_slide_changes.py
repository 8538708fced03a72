"""Promise 14: the four changes of slides, and what they refuse, in which order."""

import unittest

from mastershow.changes import by_hand, fill_place, lay_slide, let_go
from mastershow.decks import fault_of
from mastershow.errors import NoMaster, NoPlace, NoSetting, NoSlide, NoTrait, NoWorth, TooMany
from mastershow.masters import places_of
from mastershow.worths import worth_at
from tests.random_decks import TRAITS, some_deck, some_lines, some_worth
from tests.things import DECK, MASTERS, ONE, SLIDES, STRANGE, THREE, TWO, bare, slide_with

OTHERS = STRANGE + (None, 0, 1, "", (), [], ("one",), ["one"])
NO_SLIDES = OTHERS + ("five", "One", "one ", "on", "ones", "leaf", "body")
NO_PLACES = OTHERS + ("none", "Body", "body ", "bod", "bodys", "leaf", "one", "alone", "gone", "lost")
NO_TRAITS = OTHERS + ("color", "Left", "left ", "lef", "lefts", "body")
NO_LINES = STRANGE + (0, 1, "", "line", [], ["line"], ("x" * 61,), ("a",) * 13, ("a\nb",), ("100%",), ("a\\b",))


def expected(slide, **parts):
    """The deck of the tests with some parts of a slide put in the place of its own."""
    return MASTERS, tuple(slide_with(known, **parts) if known == slide else known for known in SLIDES)


def many_hands(many, place="p"):
    """So many hands, of the places p0 to p8."""
    return tuple((f"{place}{k}", trait, 1 if trait != "ink" else "red") for k in range(9) for trait in TRAITS)[:many]


def roomy(**parts):
    """A deck of one slide, named s, that has the sixteen places p0 to p8 and q0 to q6."""
    first = tuple((f"p{k}", (), None) for k in range(8))
    second = (("p8", (), None),) + tuple((f"q{k}", (), None) for k in range(7))
    masters = (("high", None, first), ("low", "high", second))
    return (masters, (bare("s", "low", **parts),))


class ByHandTest(unittest.TestCase):
    def told(self, place, trait, worth, *hands):
        self.assertEqual(by_hand(DECK, "one", place, trait, worth), expected(ONE, hands=hands))

    def test_in_the_place_of_one(self):
        hands = ONE[2]
        self.told("body", "left", 4, ("body", "left", 4), *hands[1:])
        self.told("body", "ink", "x", hands[0], ("body", "ink", "x"), *hands[2:])
        self.told("top", "wide", 51, *hands[:4], ("top", "wide", 51))

    def test_the_same_worth_again(self):
        self.assertEqual(by_hand(DECK, "one", "body", "left", 3), DECK)

    def test_ahead_of_others(self):
        hands = THREE[2]
        fresh = ("alone", "top", 5)
        self.assertEqual(by_hand(DECK, "three", *fresh), expected(THREE, hands=(fresh,) + hands))

    def test_between_others(self):
        hands = ONE[2]
        for trait in ("top", "wide", "high", "size"):
            self.told("body", trait, 9, hands[0], ("body", trait, 9), *hands[1:])
        self.told("foot", "ink", "x", *hands[:2], ("foot", "ink", "x"), *hands[2:])
        self.told("side", "left", 0, *hands[:4], ("side", "left", 0), *hands[4:])
        self.told("note", "left", 0, *hands[:3], ("note", "left", 0), *hands[3:])
        self.told("note", "ink", "x", *hands[:4], ("note", "ink", "x"), *hands[4:])
        self.told("top", "top", 0, *hands[:4], ("top", "top", 0), *hands[4:])

    def test_behind_others(self):
        self.told("top", "ink", "x", *ONE[2], ("top", "ink", "x"))

    def test_as_the_first_one(self):
        self.assertEqual(by_hand(DECK, "two", "note", "size", 99), expected(TWO, hands=(("note", "size", 99),)))

    def test_names_rise_as_texts_do(self):
        deck = (((("m", None, (("p1", (), None), ("pa", (), None), ("p", (), None)))),), (bare("s", "m"),))
        for place in ("pa", "p", "p1"):
            deck = by_hand(deck, "s", place, "left", 1)
        self.assertEqual([hand[0] for hand in deck[1][0][2]], ["p", "p1", "pa"])

    def test_the_worth_then_is_by_hand(self):
        deck = by_hand(DECK, "four", "body", "left", -5)
        self.assertEqual(worth_at(deck, "four", "body", "left"), (-5, ("hand",)))

    def test_48_hands_with_one_changed_and_one_more(self):
        deck = by_hand(roomy(hands=many_hands(47)), "s", "p7", "ink", "red")
        self.assertEqual(deck[1][0][2], many_hands(48))
        self.assertEqual(by_hand(deck, "s", "p7", "ink", "x")[1][0][2], many_hands(47) + (("p7", "ink", "x"),))
        self.assertEqual(by_hand(deck, "s", "p0", "left", 2)[1][0][2], (("p0", "left", 2),) + many_hands(48)[1:])
        self.assertRaises(TooMany, by_hand, deck, "s", "p8", "left", 1)
        self.assertRaises(TooMany, by_hand, deck, "s", "q0", "left", 1)

    def test_hands_that_stray_count_too(self):
        deck = roomy(hands=many_hands(48, "z"))
        self.assertRaises(TooMany, by_hand, deck, "s", "p0", "left", 1)

    def test_each_refusal_alone(self):
        for bad in NO_SLIDES:
            self.assertRaises(NoSlide, by_hand, DECK, bad, "body", "left", 1)
        for bad in NO_PLACES:
            self.assertRaises(NoPlace, by_hand, DECK, "one", bad, "left", 1)
        for bad in NO_TRAITS:
            self.assertRaises(NoTrait, by_hand, DECK, "one", "body", bad, 1)
        for trait in TRAITS:
            for bad in STRANGE + (None, "", "1", (), (1,), "red" if trait != "ink" else 1):
                self.assertRaises(NoWorth, by_hand, DECK, "one", "body", trait, bad)

    def test_a_place_that_strays_is_no_place(self):
        self.assertRaises(NoPlace, by_hand, DECK, "one", "gone", "size", 8)

    def test_due_at_once(self):
        crowded = roomy(hands=many_hands(48))
        for bad in OTHERS + ("none",):
            with self.subTest(kind=str(type(bad))):
                self.assertRaises(NoSlide, by_hand, DECK, bad, bad, bad, bad)
                self.assertRaises(NoSlide, by_hand, DECK, bad, bad, "left", 1)
                self.assertRaises(NoSlide, by_hand, DECK, bad, "body", bad, 1)
                self.assertRaises(NoSlide, by_hand, DECK, bad, "body", "wide", False)
                self.assertRaises(NoSlide, by_hand, crowded, bad, "p8", "wide", 1)
                self.assertRaises(NoPlace, by_hand, DECK, "one", bad, bad, bad)
                self.assertRaises(NoPlace, by_hand, DECK, "one", bad, bad, 1)
                self.assertRaises(NoPlace, by_hand, DECK, "one", bad, "wide", False)
                self.assertRaises(NoPlace, by_hand, crowded, "s", bad, "left", 1)
                self.assertRaises(NoTrait, by_hand, DECK, "one", "body", bad, bad)
                self.assertRaises(NoTrait, by_hand, crowded, "s", "p8", bad, 1)
                self.assertRaises(NoWorth, by_hand, crowded, "s", "p8", "wide", False)


class LetGoTest(unittest.TestCase):
    def test_a_hand_let_go(self):
        for k, (place, trait, _) in enumerate(ONE[2]):
            with self.subTest(place=place, trait=trait):
                hands = ONE[2][:k] + ONE[2][k + 1 :]
                self.assertEqual(let_go(DECK, "one", place, trait), expected(ONE, hands=hands))

    def test_also_one_of_a_place_that_strays(self):
        hands = tuple(hand for hand in ONE[2] if hand[0] != "gone")
        self.assertEqual(let_go(DECK, "one", "gone", "size"), expected(ONE, hands=hands))
        self.assertEqual(let_go(DECK, "three", "body", "left"), expected(THREE, hands=THREE[2][:1]))

    def test_the_worth_then_is_the_masters(self):
        deck = let_go(DECK, "one", "body", "left")
        self.assertEqual(worth_at(deck, "one", "body", "left"), (-999, ("master", "leaf")))

    def test_each_refusal_alone(self):
        for bad in NO_SLIDES:
            self.assertRaises(NoSlide, let_go, DECK, bad, "body", "left")
        for bad in NO_TRAITS:
            self.assertRaises(NoTrait, let_go, DECK, "one", "body", bad)
        for bad in OTHERS + ("none", "Body", "side", "foot", "alone", "lost"):
            with self.subTest(kind=str(type(bad))):
                self.assertRaises(NoSetting, let_go, DECK, "one", bad, "left")
        for trait in ("top", "wide", "high", "size"):
            self.assertRaises(NoSetting, let_go, DECK, "one", "body", trait)
        self.assertRaises(NoSetting, let_go, DECK, "one", "note", "left")
        self.assertRaises(NoSetting, let_go, DECK, "two", "body", "left")

    def test_due_at_once(self):
        for bad in OTHERS + ("none",):
            with self.subTest(kind=str(type(bad))):
                self.assertRaises(NoSlide, let_go, DECK, bad, bad, bad)
                self.assertRaises(NoSlide, let_go, DECK, bad, bad, "left")
                self.assertRaises(NoSlide, let_go, DECK, bad, "body", bad)
                self.assertRaises(NoTrait, let_go, DECK, "one", bad, bad)
                self.assertRaises(NoTrait, let_go, DECK, "two", "body", bad)


class FillPlaceTest(unittest.TestCase):
    def test_lines_filled_in(self):
        fills = ONE[3]
        told = fill_place(DECK, "one", "foot", ("a", ""))
        self.assertEqual(told, expected(ONE, fills=(fills[0], ("foot", ("a", "")), *fills[1:])))
        told = fill_place(DECK, "one", "top", ())
        self.assertEqual(told, expected(ONE, fills=fills + (("top", ()),)))
        self.assertEqual(fill_place(DECK, "two", "note", ("x",)), expected(TWO, fills=(("note", ("x",)),)))

    def test_lines_ahead_of_others(self):
        deck = roomy(fills=(("p1", ()), ("p3", ())))
        self.assertEqual(fill_place(deck, "s", "p0", ("a",))[1][0][3], (("p0", ("a",)), ("p1", ()), ("p3", ())))
        self.assertEqual(fill_place(deck, "s", "p2", ("a",))[1][0][3], (("p1", ()), ("p2", ("a",)), ("p3", ())))
        self.assertEqual(fill_place(deck, "s", "p4", ("a",))[1][0][3], (("p1", ()), ("p3", ()), ("p4", ("a",))))

    def test_lines_in_the_place_of_those_it_had(self):
        fills = ONE[3]
        self.assertEqual(fill_place(DECK, "one", "body", ("x",)), expected(ONE, fills=(("body", ("x",)), *fills[1:])))
        self.assertEqual(fill_place(DECK, "one", "body", ()), expected(ONE, fills=(("body", ()), *fills[1:])))
        self.assertEqual(fill_place(DECK, "one", "side", ("x",)), expected(ONE, fills=(*fills[:2], ("side", ("x",)))))

    def test_the_same_lines_again(self):
        self.assertEqual(fill_place(DECK, "one", "side", ()), DECK)

    def test_lines_taken_out(self):
        for k, (place, _) in enumerate(ONE[3]):
            with self.subTest(place):
                told = fill_place(DECK, "one", place, None)
                self.assertEqual(told, expected(ONE, fills=ONE[3][:k] + ONE[3][k + 1 :]))

    def test_twelve_fills_with_one_changed_and_one_more(self):
        names = [f"p{k}" for k in range(9)] + [f"q{k}" for k in range(3)]
        fills = tuple((name, ("line",)) for name in names)
        deck = fill_place(roomy(fills=fills[:11]), "s", "q2", ("line",))
        self.assertEqual(deck[1][0][3], fills)
        self.assertEqual(fill_place(deck, "s", "q2", ("x",))[1][0][3], fills[:11] + (("q2", ("x",)),))
        self.assertEqual(fill_place(deck, "s", "p0", ("x",))[1][0][3], (("p0", ("x",)),) + fills[1:])
        self.assertEqual(fill_place(deck, "s", "p0", None)[1][0][3], fills[1:])
        self.assertRaises(TooMany, fill_place, deck, "s", "q3", ("x",))
        self.assertRaises(TooMany, fill_place, deck, "s", "q3", ())

    def test_each_refusal_alone(self):
        for bad in NO_SLIDES:
            with self.subTest(kind=str(type(bad))):
                self.assertRaises(NoSlide, fill_place, DECK, bad, "body", ("a",))
                self.assertRaises(NoSlide, fill_place, DECK, bad, "body", None)
        for bad in NO_PLACES:
            with self.subTest(kind=str(type(bad))):
                self.assertRaises(NoPlace, fill_place, DECK, "one", bad, ("a",))
        for bad in NO_LINES:
            with self.subTest(kind=str(type(bad))):
                self.assertRaises(NoWorth, fill_place, DECK, "one", "body", bad)
                self.assertRaises(NoWorth, fill_place, DECK, "one", "foot", bad)

    def test_no_setting_of_none_whatever_the_place(self):
        for bad in OTHERS + ("none", "Body", "gone", "foot", "top", "alone"):
            with self.subTest(kind=str(type(bad))):
                self.assertRaises(NoSetting, fill_place, DECK, "one", bad, None)
        self.assertRaises(NoSetting, fill_place, DECK, "two", "body", None)

    def test_due_at_once(self):
        crowded = roomy(fills=tuple((f"p{k}", ()) for k in range(9)) + tuple((f"q{k}", ()) for k in range(3)))
        for bad in NO_LINES:
            with self.subTest(kind=str(type(bad))):
                self.assertRaises(NoSlide, fill_place, DECK, bad, bad, bad)
                self.assertRaises(NoSlide, fill_place, DECK, bad, bad, None)
                self.assertRaises(NoSlide, fill_place, DECK, bad, bad, ())
                self.assertRaises(NoSlide, fill_place, DECK, bad, "body", bad)
                self.assertRaises(NoSlide, fill_place, crowded, bad, "q3", ())
                self.assertRaises(NoPlace, fill_place, DECK, "one", bad, bad)
                self.assertRaises(NoPlace, fill_place, crowded, "s", bad, ())
                self.assertRaises(NoWorth, fill_place, crowded, "s", "q3", bad)


class LaySlideTest(unittest.TestCase):
    def test_under_another_master(self):
        self.assertEqual(lay_slide(DECK, "one", "other"), expected(ONE, master="other"))
        self.assertEqual(lay_slide(DECK, "one", "base"), expected(ONE, master="base"))
        self.assertEqual(lay_slide(DECK, "two", "leaf"), expected(TWO, master="leaf"))

    def test_under_its_own(self):
        for name, master, *_ in SLIDES:
            self.assertEqual(lay_slide(DECK, name, master), DECK)

    def test_each_refusal_alone(self):
        for bad in NO_SLIDES:
            with self.subTest(kind=str(type(bad))):
                self.assertRaises(NoSlide, lay_slide, DECK, bad, "base")
        for bad in OTHERS + ("none", "Base", "base ", "bas", "bases", "one", "body"):
            with self.subTest(kind=str(type(bad))):
                self.assertRaises(NoMaster, lay_slide, DECK, "one", bad)

    def test_due_at_once(self):
        for bad in OTHERS + ("none",):
            with self.subTest(kind=str(type(bad))):
                self.assertRaises(NoSlide, lay_slide, DECK, bad, bad)


class NothingElseTest(unittest.TestCase):
    """On decks made by chance: nothing else is changed, and what is told is a deck."""

    def changes(self, deck, chance):
        """What each change tells, with the number of the slide and of the part that it changes."""
        for k, slide in enumerate(deck[1]):
            name = slide[0]
            for place in places_of(deck[0], slide[1]):
                trait = chance.choice(TRAITS)
                yield k, 2, by_hand(deck, name, place, trait, some_worth(chance, trait))
                yield k, 3, fill_place(deck, name, place, some_lines(chance))
            for place, trait, _ in slide[2]:
                yield k, 2, let_go(deck, name, place, trait)
            for place, _ in slide[3]:
                yield k, 3, fill_place(deck, name, place, None)
            yield k, 1, lay_slide(deck, name, chance.choice(deck[0])[0])

    def test_nothing_else_is_changed(self):
        for number in range(40):
            deck, chance = some_deck(number)
            again, _ = some_deck(number)
            for k, part, told in self.changes(deck, chance):
                self.assertIsNone(fault_of(told))
                self.assertIs(type(told), tuple)
                self.assertEqual(told[0], deck[0])
                self.assertEqual(told[1][:k] + told[1][k + 1 :], deck[1][:k] + deck[1][k + 1 :])
                for at, (ahead, behind) in enumerate(zip(deck[1][k], told[1][k])):
                    if at != part:
                        self.assertEqual(behind, ahead)
            self.assertEqual(deck, again)

    def test_a_hand_put_and_let_go_again(self):
        for number in range(40):
            deck, chance = some_deck(number)
            for slide in deck[1]:
                free = [
                    (place, trait)
                    for place in places_of(deck[0], slide[1])
                    for trait in TRAITS
                    if (place, trait) not in [hand[:2] for hand in slide[2]]
                ]
                for place, trait in free:
                    worth = some_worth(chance, trait)
                    there = by_hand(deck, slide[0], place, trait, worth)
                    self.assertIn((place, trait, worth), [hand for known in there[1] for hand in known[2]])
                    self.assertEqual(let_go(there, slide[0], place, trait), deck)
