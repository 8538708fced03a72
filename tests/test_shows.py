"""Promises 22, 23 and 24: shows, which go on and back, jump, and come back by their trail."""

import unittest

from mastershow.errors import NoDeck, NoLink, NoShow, NoSlide, NoTime, Taken
from mastershow.pictures import picture_of
from mastershow.shows import Show
from mastershow.steps import groups_of
from tests.random_decks import some_deck
from tests.things import DECK, MASTERS, NO_DECKS, SLIDES, STRANGE, Stranger, bare

OTHERS = STRANGE + (None, 0, 1, "", (), [], ("one",), ["one"])
NO_SLIDES = OTHERS + ("five", "One", "one ", "on", "ones", "leaf", "body")
NO_TIMES = tuple(thing for thing in STRANGE if thing is True or not isinstance(thing, int)) + (
    -1,
    False,
    "",
    "0",
    (),
    [0],
)

# The way through the deck of the tests, whose slide two is hidden.
WAY = [("one", 0), ("one", 1), ("one", 2), ("three", 0), ("three", 1), ("four", 0)]


def linked(*links):
    """A deck of slides a to d without steps, but two presses at b, and d hidden; the links are of a."""
    steps = (("press", 0, "come", "p", 0), ("press", 0, "go", "p", 0))
    slides = (bare("a", links=links), bare("b", steps=steps), bare("c"), bare("d", hidden=1))
    return (MASTERS, slides)


def on_by(show, times):
    for _ in range(times):
        show.on()
    return show


class MadeTest(unittest.TestCase):
    def test_of_names(self):
        self.assertEqual(Show(DECK, ["four", "one"]).where(), ("four", 0))
        self.assertEqual(Show(DECK, ["three"]).where(), ("three", 0))

    def test_of_none(self):
        self.assertEqual(Show(DECK, None).where(), ("one", 0))
        self.assertEqual(Show((MASTERS, SLIDES[::-1]), None).where(), ("four", 0))
        self.assertEqual(Show((MASTERS, (bare("a", hidden=1), bare("b"))), None).where(), ("b", 0))

    def test_hidden_slides_named_are_shown(self):
        show = Show(DECK, ["two", "four"])
        self.assertEqual(show.where(), ("two", 0))
        show.on()
        self.assertEqual(show.where(), ("four", 0))
        self.assertIs(show.back(), True)
        self.assertEqual(show.where(), ("two", 0))
        self.assertIs(show.back(), False)

    def test_it_begins_without_a_trail(self):
        self.assertEqual(Show(DECK, None).trail(), [])

    def test_where_is_a_tuple(self):
        self.assertIs(type(Show(DECK, None).where()), tuple)

    def test_no_deck(self):
        for thing in NO_DECKS:
            with self.subTest(kind=str(type(thing))):
                self.assertRaises(NoDeck, Show, thing, None)
                self.assertRaises(NoDeck, Show, thing, ["one"])
                self.assertRaises(NoDeck, Show, thing, ())
                self.assertRaises(NoDeck, Show, thing, ["none", "none"])

    def test_no_show_of_what_is_no_list(self):
        for names in tuple(thing for thing in STRANGE if not isinstance(thing, list)) + (
            0,
            1,
            "",
            "one",
            (),
            ("one",),
            ("one", "three"),
            {"one": 1},
        ):
            with self.subTest(kind=str(type(names))):
                self.assertRaises(NoShow, Show, DECK, names)

    def test_no_show_of_no_names(self):
        self.assertRaises(NoShow, Show, DECK, [])

    def test_no_show_by_none_where_none_is_not_hidden(self):
        self.assertRaises(NoShow, Show, (MASTERS, ()), None)
        self.assertRaises(NoShow, Show, (MASTERS, (bare("a", hidden=1), bare("b", hidden=1))), None)
        self.assertEqual(Show((MASTERS, (bare("a", hidden=1),)), ["a"]).where(), ("a", 0))

    def test_no_slide(self):
        for thing in NO_SLIDES:
            with self.subTest(kind=str(type(thing))):
                self.assertRaises(NoSlide, Show, DECK, [thing])
                self.assertRaises(NoSlide, Show, DECK, ["one", thing])
                self.assertRaises(NoSlide, Show, DECK, [thing, "one"])
        self.assertRaises(NoSlide, Show, (MASTERS, ()), ["one"])

    def test_taken(self):
        self.assertRaises(Taken, Show, DECK, ["one", "one"])
        self.assertRaises(Taken, Show, DECK, ["one", "three", "two", "three"])

    def test_two_and_more_due(self):
        self.assertRaises(NoSlide, Show, DECK, ["one", "one", "none"])
        self.assertRaises(NoSlide, Show, DECK, ["none", "none"])
        self.assertRaises(NoSlide, Show, DECK, ["one", Stranger(), "one"])
        self.assertRaises(NoShow, Show, DECK, ("none", "none"))
        self.assertRaises(NoShow, Show, DECK, ("one", "one"))
        self.assertRaises(NoDeck, Show, None, ("none", "none"))

    def test_the_list_handed_in_changed_later(self):
        names = ["one", "four"]
        show = Show(DECK, names)
        names.reverse()
        names.append("three")
        self.assertEqual(on_by(show, 9).where(), ("four", 0))
        self.assertEqual(names, ["four", "one", "three"])
        self.assertIs(show.on(), False)


class OnAndBackTest(unittest.TestCase):
    def test_on_through_groups_and_slides(self):
        show = Show(DECK, None)
        for place in WAY[1:]:
            self.assertIs(show.on(), True)
            self.assertEqual(show.where(), place)

    def test_back_from_the_end(self):
        show = on_by(Show(DECK, None), 5)
        for place in WAY[-2::-1]:
            self.assertIs(show.back(), True)
            self.assertEqual(show.where(), place)

    def test_at_both_ends(self):
        show = Show(DECK, None)
        self.assertIs(show.back(), False)
        self.assertEqual(show.where(), WAY[0])
        on_by(show, 5)
        self.assertIs(show.on(), False)
        self.assertIs(show.on(), False)
        self.assertEqual(show.where(), WAY[-1])

    def test_at_the_last_group_of_the_last_slide(self):
        show = on_by(Show(DECK, ["one"]), 2)
        self.assertEqual(show.where(), ("one", 2))
        self.assertIs(show.on(), False)
        self.assertEqual(show.where(), ("one", 2))

    def test_the_list_tells_the_order(self):
        show = Show(DECK, ["three", "two", "one"])
        told = [show.where()]
        while show.on():
            told.append(show.where())
        self.assertEqual(told, [("three", 0), ("three", 1), ("two", 0), ("one", 0), ("one", 1), ("one", 2)])

    def test_back_behind_on_and_on_behind_back_at_each_place(self):
        for at, place in enumerate(WAY):
            show = on_by(Show(DECK, None), at)
            self.assertEqual(show.where(), place)
            if show.on():
                self.assertIs(show.back(), True)
                self.assertEqual(show.where(), place)
            if show.back():
                self.assertIs(show.on(), True)
                self.assertEqual(show.where(), place)

    def test_on_and_back_keep_no_trail(self):
        show = on_by(Show(DECK, None), 4)
        show.back()
        self.assertEqual(show.trail(), [])

    def test_at_the_ends_with_a_trail(self):
        show = Show(DECK, None)
        show.jump("four")
        self.assertIs(show.on(), False)
        self.assertEqual((show.where(), show.trail()), (("four", 0), [("one", 0)]))
        show.jump("one")
        self.assertIs(show.back(), False)
        self.assertEqual((show.where(), show.trail()), (("one", 0), [("one", 0), ("four", 0)]))

    def test_on_and_back_within_the_list_leave_the_trail(self):
        show = Show(DECK, None)
        show.jump("three")
        on_by(show, 2)
        self.assertEqual((show.where(), show.trail()), (("four", 0), [("one", 0)]))
        show.back()
        show.back()
        show.back()
        self.assertEqual((show.where(), show.trail()), (("one", 2), [("one", 0)]))


class BesideTest(unittest.TestCase):
    """A slide that is not of the list is beside the show."""

    def test_on_from_its_last_group(self):
        show = on_by(Show(DECK, ["three", "four"]), 1)
        show.jump("one")
        self.assertEqual(show.where(), ("one", 0))
        for presses in (1, 2):
            self.assertIs(show.on(), True)
            self.assertEqual(show.where(), ("one", presses))
        self.assertIs(show.on(), True)
        self.assertEqual((show.where(), show.trail()), (("three", 1), []))

    def test_back_from_its_first(self):
        show = on_by(Show(DECK, ["three", "four"]), 1)
        show.jump("one")
        on_by(show, 2)
        for presses in (1, 0):
            self.assertIs(show.back(), True)
            self.assertEqual(show.where(), ("one", presses))
        self.assertIs(show.back(), True)
        self.assertEqual((show.where(), show.trail()), (("three", 1), []))

    def test_a_hidden_slide_that_is_not_named(self):
        for go in (Show.on, Show.back):
            show = on_by(Show(DECK, None), 4)
            show.jump("two")
            self.assertIs(go(show), True)
            self.assertEqual((show.where(), show.trail()), (("three", 1), []))

    def test_beside_come_to_from_beside(self):
        show = Show(DECK, ["four"])
        show.jump("one")
        show.on()
        show.jump("two")
        self.assertEqual(show.trail(), [("four", 0), ("one", 1)])
        self.assertIs(show.on(), True)
        self.assertEqual((show.where(), show.trail()), (("one", 1), [("four", 0)]))
        self.assertIs(show.on(), True)
        self.assertEqual((show.where(), show.trail()), (("one", 2), [("four", 0)]))
        self.assertIs(show.on(), True)
        self.assertEqual((show.where(), show.trail()), (("four", 0), []))
        self.assertIs(show.on(), False)

    def test_a_jump_back_to_a_slide_of_the_list(self):
        show = Show(DECK, ["three", "four"])
        show.jump("two")
        show.jump("three")
        self.assertIs(show.on(), True)
        self.assertEqual(show.where(), ("three", 1))
        self.assertIs(show.on(), True)
        self.assertEqual((show.where(), show.trail()), (("four", 0), [("three", 0), ("two", 0)]))
        self.assertIs(show.on(), False)
        self.assertIs(show.return_back(), True)
        self.assertEqual(show.where(), ("two", 0))
        self.assertIs(show.on(), True)
        self.assertEqual((show.where(), show.trail()), (("three", 0), []))


class JumpTest(unittest.TestCase):
    def test_jumps_gone_back_one_by_one(self):
        show = on_by(Show(DECK, None), 1)
        show.jump("three")
        show.on()
        show.jump("two")
        show.jump("four")
        self.assertEqual(show.trail(), [("one", 1), ("three", 1), ("two", 0)])
        for at, place in enumerate([("two", 0), ("three", 1), ("one", 1)]):
            self.assertIs(show.return_back(), True)
            self.assertEqual(show.where(), place)
            self.assertEqual(show.trail(), [("one", 1), ("three", 1), ("two", 0)][: 2 - at])
        self.assertIs(show.return_back(), False)
        self.assertEqual((show.where(), show.trail()), (("one", 1), []))

    def test_a_jump_tells_none(self):
        self.assertIsNone(Show(DECK, None).jump("one"))

    def test_a_jump_to_the_slide_that_it_is_at(self):
        show = on_by(Show(DECK, None), 2)
        show.jump("one")
        self.assertEqual((show.where(), show.trail()), (("one", 0), [("one", 2)]))
        show.jump("one")
        self.assertEqual((show.where(), show.trail()), (("one", 0), [("one", 2), ("one", 0)]))
        show.return_back()
        show.return_back()
        self.assertEqual((show.where(), show.trail()), (("one", 2), []))

    def test_a_jump_after_going_back(self):
        show = Show(DECK, None)
        show.jump("three")
        show.return_back()
        show.jump("four")
        self.assertEqual(show.trail(), [("one", 0)])

    def test_return_back_without_a_jump(self):
        show = on_by(Show(DECK, None), 3)
        self.assertIs(show.return_back(), False)
        self.assertEqual((show.where(), show.trail()), (("three", 0), []))

    def test_no_slide(self):
        show = on_by(Show(DECK, None), 1)
        show.jump("three")
        show.on()
        for name in NO_SLIDES:
            with self.subTest(kind=str(type(name))):
                self.assertRaises(NoSlide, show.jump, name)
                self.assertEqual((show.where(), show.trail()), (("three", 1), [("one", 1)]))

    def test_many_jumps(self):
        show = Show(DECK, None)
        for _ in range(1000):
            show.jump("three")
        self.assertEqual(len(show.trail()), 1000)
        for _ in range(1000):
            self.assertIs(show.return_back(), True)
        self.assertEqual(show.where(), ("one", 0))


class PressTest(unittest.TestCase):
    def pressed(self, target, names=None, steps=0):
        """A show that is behind the press of a link, at first so many times gone on."""
        show = on_by(Show(linked(("body", target)), names), steps)
        self.assertIs(show.press("body"), True)
        return show

    def test_of_slide(self):
        show = self.pressed(("slide", "c"))
        self.assertEqual((show.where(), show.trail()), (("c", 0), [("a", 0)]))
        self.assertEqual(self.pressed(("slide", "d")).where(), ("d", 0))

    def test_of_slide_behind_presses(self):
        show = on_by(Show(DECK, None), 2)
        self.assertIs(show.press("body"), True)
        self.assertEqual((show.where(), show.trail()), (("three", 0), [("one", 2)]))

    def test_of_first_and_last(self):
        names = ["b", "a", "c"]
        show = self.pressed(("first",), names, 3)
        self.assertEqual((show.where(), show.trail()), (("b", 0), [("a", 0)]))
        show = self.pressed(("last",), names, 3)
        self.assertEqual((show.where(), show.trail()), (("c", 0), [("a", 0)]))

    def test_of_first_and_last_by_none(self):
        self.assertEqual(self.pressed(("last",)).where(), ("c", 0))
        deck = (MASTERS, (bare("x", hidden=1),) + linked(("body", ("first",)))[1])
        show = Show(deck, None)
        show.on()
        show.jump("a")
        show.press("body")
        self.assertEqual(show.where(), ("a", 0))

    def test_of_last_behind_0_presses_where_it_has_more(self):
        show = self.pressed(("last",), ["a", "b"])
        self.assertEqual(show.where(), ("b", 0))

    def test_of_return(self):
        show = Show(linked(("body", ("return",))), None)
        on_by(show, 2)
        self.assertEqual(show.where(), ("b", 1))
        show.jump("a")
        self.assertIs(show.press("body"), True)
        self.assertEqual((show.where(), show.trail()), (("b", 1), []))

    def test_of_return_without_a_jump(self):
        show = Show(linked(("body", ("return",))), None)
        self.assertIs(show.press("body"), False)
        self.assertEqual((show.where(), show.trail()), (("a", 0), []))

    def test_to_where_it_is_already(self):
        show = self.pressed(("slide", "a"))
        self.assertEqual((show.where(), show.trail()), (("a", 0), [("a", 0)]))
        show = self.pressed(("first",))
        self.assertEqual((show.where(), show.trail()), (("a", 0), [("a", 0)]))
        show = self.pressed(("last",), ["a"])
        self.assertEqual((show.where(), show.trail()), (("a", 0), [("a", 0)]))

    def test_links_at_places_that_stray(self):
        show = Show(linked(("zoo", ("slide", "c"))), None)
        self.assertIs(show.press("zoo"), True)
        self.assertEqual(show.where(), ("c", 0))
        show = on_by(Show(DECK, None), 2)
        self.assertIs(show.press("where"), False)
        show.jump("one")
        self.assertIs(show.press("where"), True)
        self.assertEqual((show.where(), show.trail()), (("one", 2), []))

    def test_links_of_the_slide_that_it_is_at(self):
        show = Show(linked(("body", ("last",)), ("top", ("slide", "d"))), None)
        show.press("top")
        self.assertEqual(show.where(), ("d", 0))
        self.assertRaises(NoLink, show.press, "body")

    def test_slides_that_are_called_as_links_are(self):
        for name in ("first", "last", "return", "slide"):
            deck = (MASTERS, (bare("a"), bare("b", links=(("p", ("slide", name)),)), bare(name), bare("z")))
            show = Show(deck, None)
            show.on()
            self.assertIs(show.press("p"), True)
            self.assertEqual((show.where(), show.trail()), ((name, 0), [("b", 0)]))

    def test_several_links(self):
        links = (("body", ("slide", "b")), ("foot", ("slide", "c")), ("top", ("slide", "d")))
        for place, (_, name) in links:
            show = Show(linked(*links), None)
            show.press(place)
            self.assertEqual(show.where(), (name, 0))

    def test_no_link(self):
        show = on_by(Show(DECK, None), 1)
        show.jump("one")
        show.on()
        for place in OTHERS + ("none", "Body", "body ", "bod", "bodys", "one", "side", "note", "gone", "lost", "void"):
            with self.subTest(kind=str(type(place))):
                self.assertRaises(NoLink, show.press, place)
                self.assertEqual((show.where(), show.trail()), (("one", 1), [("one", 1)]))


class NowTest(unittest.TestCase):
    def test_the_picture_of_where_it_is(self):
        show = Show(DECK, None)
        for slide, presses in WAY:
            for time in (None, 0, 4, 5, 7, 100):
                self.assertEqual(show.picture_now(time), picture_of(DECK, slide, presses, time))
            show.on()

    def test_the_same_by_several_ways(self):
        ahead = on_by(Show(DECK, None), 1)
        behind = on_by(Show(DECK, None), 5)
        for _ in range(4):
            behind.back()
        jumped = Show(DECK, ["four"])
        jumped.jump("one")
        jumped.on()
        linked_to = Show(DECK, ["three"])
        linked_to.press("alone")
        linked_to.on()
        for time in (None, 0, 5, 7):
            told = ahead.picture_now(time)
            for show in (behind, jumped, linked_to):
                self.assertEqual(show.where(), ("one", 1))
                self.assertEqual(show.picture_now(time), told)

    def test_a_time_asked_changes_no_other(self):
        show = on_by(Show(DECK, None), 1)
        late = show.picture_now(None)
        early = show.picture_now(0)
        self.assertNotEqual(early, late)
        self.assertEqual(show.picture_now(None), late)
        self.assertEqual(show.where(), ("one", 1))

    def test_no_time(self):
        show = on_by(Show(DECK, None), 1)
        show.jump("three")
        for time in NO_TIMES:
            with self.subTest(kind=str(type(time))):
                self.assertRaises(NoTime, show.picture_now, time)
                self.assertEqual((show.where(), show.trail()), (("three", 0), [("one", 1)]))

    def test_a_told_trail_and_a_told_picture_changed(self):
        show = Show(DECK, None)
        show.jump("one")
        trail, picture = show.trail(), show.picture_now(0)
        self.assertEqual({type(trail), type(picture)}, {list})
        self.assertEqual({type(thing) for thing in trail + picture}, {tuple})
        trail.append(("four", 0))
        picture.clear()
        self.assertEqual(show.trail(), [("one", 0)])
        self.assertEqual(show.picture_now(0), picture_of(DECK, "one", 0, 0))
        self.assertIs(show.return_back(), True)
        self.assertEqual(trail, [("one", 0), ("four", 0)])

    def test_two_shows_of_one_deck(self):
        first, other = Show(DECK, None), Show(DECK, None)
        first.on()
        first.jump("four")
        self.assertEqual((other.where(), other.trail()), (("one", 0), []))


class ChanceTest(unittest.TestCase):
    """Shows of decks made by chance, gone through by chance."""

    def last(self, deck, name):
        (steps,) = [slide[4] for slide in deck[1] if slide[0] == name]
        return len(groups_of(steps)) - 1

    def some_show(self, number):
        deck, chance = some_deck(number)
        names = [slide[0] for slide in deck[1]]
        chosen = chance.sample(names, chance.randint(1, len(names)))
        return deck, Show(deck, list(chosen)), chosen, chance

    def test_from_the_start_to_the_end_and_back(self):
        for number in range(80):
            deck, show, names, _ = self.some_show(number)
            way = [(name, presses) for name in names for presses in range(self.last(deck, name) + 1)]
            told, pictures = [show.where()], [show.picture_now(2)]
            while show.on():
                told.append(show.where())
                pictures.append(show.picture_now(2))
            self.assertEqual(told, way)
            for place, picture in zip(way[-2::-1], pictures[-2::-1]):
                self.assertIs(show.back(), True)
                self.assertEqual((show.where(), show.picture_now(2)), (place, picture))
            self.assertIs(show.back(), False)

    def test_any_way(self):
        for number in range(80):
            deck, show, names, chance = self.some_show(number)
            trail = []
            for _ in range(60):
                ahead = show.where()
                going = chance.choice(("on", "back", "jump", "return_back", "press"))
                if going in ("jump", "press"):
                    self.go_by(show, going, deck, trail, names, chance)
                else:
                    self.go_plain(show, going, deck, trail, names)
                self.assertEqual(show.trail(), trail)
                self.assertEqual(show.picture_now(1), picture_of(deck, *show.where(), 1))
                if going in ("on", "back") and ahead[0] in names and show.where() != ahead:
                    getattr(show, {"on": "back", "back": "on"}[going])()
                    self.assertEqual(show.where(), ahead)

    def go_plain(self, show, going, deck, trail, names):
        slide, presses = show.where()
        way = [(name, k) for name in names for k in range(self.last(deck, name) + 1)]
        if slide not in names:
            way = [(slide, k) for k in range(self.last(deck, slide) + 1)]
        at = way.index((slide, presses)) + {"on": 1, "back": -1, "return_back": len(way)}[going]
        if 0 <= at < len(way):
            expected = (way[at], True)
        elif trail and (going == "return_back" or slide not in names):
            expected = (trail.pop(), True)
        else:
            expected = ((slide, presses), False)
        went = getattr(show, going)()
        self.assertEqual((show.where(), went), expected)

    def go_by(self, show, going, deck, trail, names, chance):
        ahead = show.where()
        (links,) = [slide[5] for slide in deck[1] if slide[0] == ahead[0]]
        if going == "jump":
            name = chance.choice(deck[1])[0]
            show.jump(name)
        elif not links:
            self.assertRaises(NoLink, show.press, "a")
            return
        else:
            place, target = chance.choice(links)
            went = show.press(place)
            if target == ("return",):
                self.assertIs(went, bool(trail))
                self.assertEqual(show.where(), trail.pop() if trail else ahead)
                return
            self.assertIs(went, True)
            name = {"first": names[0], "last": names[-1]}.get(target[0]) or target[1]
        trail.append(ahead)
        self.assertEqual(show.where(), (name, 0))
