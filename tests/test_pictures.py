"""Promises 20 and 21: the picture of a slide at a moment, and what is seen then."""

import unittest

from mastershow.errors import NoPress, NoSlide, NoTime
from mastershow.lines import laid_at, lines_at, rows_of
from mastershow.masters import places_of
from mastershow.pictures import picture_of, seen_at
from mastershow.steps import groups_of, times_of
from mastershow.worths import worth_at
from tests.random_decks import some_deck
from tests.things import DECK, STRANGE, bare

OTHERS = STRANGE + (None, "", (), [], ("one",), ["one"])
NO_SLIDES = OTHERS + (0, 1, "five", "One", "one ", "leaf", "body")
NO_TIMES = tuple(thing for thing in STRANGE if thing is True or not isinstance(thing, int)) + (
    -1,
    -1000,
    False,
    "",
    "0",
    "end",
    (),
    (0,),
    [],
    [0],
)
NO_PRESSES = STRANGE + (None, -1, "", "0", (), (0,), [], [0])

MASTERS = (("m", "top", (("b", (), ("b0", "b1", "b2")),)), ("top", None, (("a", (), ("a0", "a1")), ("c", (), None))))


def deck_of(*steps):
    return (MASTERS, (bare("other", "m"), bare("s", "m", steps=steps)))


def states(deck, presses, time):
    """The states of all lines at the slide s, in the order of the picture."""
    return " ".join(state for _, _, _, state in picture_of(deck, "s", presses, time))


class PictureTest(unittest.TestCase):
    def told(self, steps, presses, time, expected):
        self.assertEqual(states(deck_of(*steps), presses, time), expected)

    def test_places_in_order_and_lines_by_number(self):
        rows = [("a", 0, "a0", "here"), ("a", 1, "a1", "here")]
        rows += [("b", 0, "b0", "here"), ("b", 1, "b1", "here"), ("b", 2, "b2", "here")]
        self.assertEqual(picture_of(deck_of(), "s", 0, None), rows)

    def test_of_a_slide_with_all(self):
        top = [("top", 0, "leaf top", "here"), ("top", 1, "", "here")]
        foot = [("foot", 0, "mid foot", "here")]
        body = ("1 of 3", "", "third")
        for presses, time, found in (
            (0, None, ("here", "out", "here")),
            (1, 4, ("here", "out", "here")),
            (1, 5, ("here", "here", "here")),
            (1, 6, ("here", "here", "here")),
            (1, 7, ("dim", "dim", "dim")),
            (2, 0, ("dim", "dim", "dim")),
        ):
            with self.subTest(presses=presses, time=time):
                rows = [("body", k, line, found[k]) for k, line in enumerate(body)]
                self.assertEqual(picture_of(DECK, "one", presses, time), top + rows + foot)

    def test_a_slide_without_lines(self):
        self.assertEqual(picture_of(DECK, "three", 0, None), [])
        self.assertEqual(picture_of(DECK, "three", 1, 0), [])

    def test_first_come(self):
        steps = (("press", 0, "come", "a", 1),)
        self.told(steps, 0, None, "here out here here here")
        self.told(steps, 1, None, "here here here here here")

    def test_first_come_by_none(self):
        steps = (("press", 0, "come", "b", None),)
        self.told(steps, 0, None, "here here out out out")
        self.told(steps, 1, None, "here here here here here")

    def test_first_go(self):
        steps = (("press", 0, "go", "a", 0), ("press", 0, "come", "a", 0))
        self.told(steps, 0, None, "here here here here here")
        self.told(steps, 1, None, "out here here here here")
        self.told(steps, 2, None, "here here here here here")

    def test_first_go_by_none(self):
        steps = (("press", 0, "go", "b", None),)
        self.told(steps, 0, None, "here here here here here")
        self.told(steps, 1, None, "here here out out out")

    def test_first_dim(self):
        steps = (("press", 0, "dim", "a", None), ("press", 0, "come", "a", 1))
        self.told(steps, 0, None, "here here here here here")
        self.told(steps, 1, None, "dim dim here here here")
        self.told(steps, 2, None, "dim here here here here")

    def test_the_first_step_by_numbers_and_not_by_times(self):
        steps = (("with", 5, "come", "a", 0), ("with", 0, "go", "a", 0))
        self.told(steps, 0, 0, "out here here here here")
        self.told(steps, 0, 5, "here here here here here")
        steps = (("with", 5, "go", "a", 0), ("with", 3, "come", "a", 0))
        self.told(steps, 0, 2, "here here here here here")
        self.told(steps, 0, 3, "here here here here here")
        self.told(steps, 0, 5, "out here here here here")

    def test_named_by_none_ahead_of_its_number(self):
        steps = (("press", 0, "come", "b", None), ("press", 0, "go", "b", 1))
        self.told(steps, 0, None, "here here out out out")
        self.told(steps, 1, None, "here here here here here")
        self.told(steps, 2, None, "here here here out here")

    def test_named_by_its_number_ahead_of_none(self):
        steps = (("press", 0, "go", "b", 1), ("press", 0, "come", "b", None))
        self.told(steps, 0, None, "here here out here out")
        self.told(steps, 1, None, "here here out out out")
        self.told(steps, 2, None, "here here here here here")

    def test_dim_of_what_is_out_leaves_it_out(self):
        steps = (("press", 0, "go", "a", 0), ("press", 0, "dim", "a", None), ("press", 0, "come", "a", None))
        self.told(steps, 2, None, "out dim here here here")
        self.told(steps, 3, None, "here here here here here")

    def test_go_of_what_is_dim(self):
        steps = (("press", 0, "dim", "a", 0), ("press", 0, "go", "a", 0), ("press", 0, "dim", "a", 0))
        self.told(steps, 1, None, "dim here here here here")
        self.told(steps, 2, None, "out here here here here")
        self.told(steps, 3, None, "out here here here here")

    def test_come_of_what_is_here(self):
        steps = (("press", 0, "go", "a", 0), ("press", 0, "come", "a", None), ("press", 0, "come", "a", None))
        self.told(steps, 3, None, "here here here here here")

    def test_lines_never_named(self):
        steps = (("press", 0, "come", "c", None), ("press", 0, "come", "a", 5), ("press", 0, "come", "b", 11))
        for presses in range(4):
            self.told(steps, presses, None, "here here here here here")

    def test_steps_of_a_place_that_strays(self):
        steps = (("press", 9, "come", "z", 0), ("after", 1, "come", "a", 0), ("press", 0, "go", "z", None))
        self.told(steps, 0, None, "out here here here here")
        self.told(steps, 1, 9, "out here here here here")
        self.told(steps, 1, 10, "here here here here here")
        self.told(steps, 2, 0, "here here here here here")

    def test_each_group(self):
        steps = (
            ("with", 0, "go", "a", 0),
            ("press", 0, "go", "a", 1),
            ("with", 0, "go", "b", 0),
            ("press", 0, "go", "b", 1),
        )
        self.told(steps, 0, None, "out here here here here")
        self.told(steps, 1, None, "out out out here here")
        self.told(steps, 2, None, "out out out out here")

    def test_groups_ahead_are_done_whatever_the_time(self):
        steps = (("with", 50, "go", "a", 0), ("press", 99, "go", "a", 1), ("press", 3, "go", "b", 0))
        self.told(steps, 0, 49, "here here here here here")
        self.told(steps, 1, 0, "out here here here here")
        self.told(steps, 2, 0, "out out here here here")
        self.told(steps, 2, 3, "out out out here here")

    def test_each_time_between_and_at_the_time_itself(self):
        steps = (("press", 2, "go", "a", 0), ("with", 4, "go", "a", 1), ("after", 3, "go", "b", 0))
        self.told(steps, 1, 0, "here here here here here")
        self.told(steps, 1, 1, "here here here here here")
        self.told(steps, 1, 2, "out here here here here")
        self.told(steps, 1, 3, "out here here here here")
        self.told(steps, 1, 4, "out out here here here")
        self.told(steps, 1, 6, "out out here here here")
        self.told(steps, 1, 7, "out out out here here")
        self.told(steps, 1, 10**5000, "out out out here here")
        self.told(steps, 1, None, "out out out here here")

    def test_steps_are_done_by_their_times(self):
        steps = (("press", 5, "go", "a", 0), ("with", 3, "dim", "a", 0), ("with", 1, "go", "a", 1), ("with", 0, "come", "a", 1))
        self.told(steps, 1, 3, "dim out here here here")
        self.told(steps, 1, None, "out out here here here")
        steps = (("press", 5, "dim", "a", 0), ("with", 3, "go", "a", 0))
        self.told(steps, 1, None, "out here here here here")
        steps = (("press", 5, "come", "a", 0), ("with", 3, "go", "a", 0))
        self.told(steps, 1, 4, "out here here here here")
        self.told(steps, 1, None, "here here here here here")

    def test_steps_of_like_times_are_done_by_their_numbers(self):
        steps = (("press", 2, "go", "a", 0), ("with", 2, "come", "a", 0), ("with", 2, "dim", "a", 0))
        self.told(steps, 1, None, "dim here here here here")
        steps = (("press", 2, "dim", "a", 0), ("with", 2, "come", "a", 0))
        self.told(steps, 1, None, "here here here here here")
        steps = (("press", 0, "come", "a", 0), ("after", 0, "go", "a", 0))
        self.told(steps, 1, 0, "out here here here here")
        ten = tuple(("with", 1, deed, "a", 0) for deed in ("go", "come") * 6)
        self.told(ten, 0, None, "here here here here here")
        self.told(ten[1:] + ten[:1], 0, None, "out here here here here")

    def test_group_by_group_and_not_by_times_of_all(self):
        steps = (("press", 9, "go", "a", 0), ("press", 1, "come", "a", 0))
        self.told(steps, 2, None, "here here here here here")
        self.told(steps, 2, 0, "out here here here here")

    def test_the_lines_are_those_of_the_fill_with_fields(self):
        slide = bare("s", "m", fills=(("a", ("{name} {n}",)), ("b", ())), steps=(("press", 0, "come", "a", 1),))
        self.assertEqual(picture_of((MASTERS, (slide,)), "s", 0, 0), [("a", 0, "s 1", "here")])

    def test_a_hidden_slide(self):
        slide = bare("s", "m", hidden=1, fills=(("a", ("{n}",)), ("b", ())))
        self.assertEqual(picture_of((MASTERS, (slide,)), "s", 0, None), [("a", 0, "-", "here")])

    def test_the_list_is_the_askers_own(self):
        told = picture_of(DECK, "one", 1, None)
        whole = list(told)
        self.assertIs(type(told), list)
        self.assertEqual({type(row) for row in told}, {tuple})
        told.clear()
        self.assertEqual(picture_of(DECK, "one", 1, None), whole)
        self.assertEqual(told, [])


class ChanceTest(unittest.TestCase):
    """On decks made by chance, against the document's words done one by one."""

    def expected(self, deck, slide, presses, time):
        steps = slide[4]
        times = times_of(steps)
        told = []
        for place in places_of(deck[0], slide[1]):
            for number, line in enumerate(lines_at(deck, slide[0], place)):
                named = [k for k, step in enumerate(steps) if step[3] == place and step[4] in (None, number)]
                state = "out" if named and steps[named[0]][2] == "come" else "here"
                for at, group in enumerate(groups_of(steps)):
                    for moment in range(0, max(times, default=0) + 1):
                        for k in group:
                            early = at < presses or (at == presses and (time is None or moment <= time))
                            if times[k] == moment and early and k in named:
                                deed = steps[k][2]
                                state = {"come": "here", "go": "out"}.get(deed) or ("out" if state == "out" else "dim")
                told.append((place, number, line, state))
        return told

    def test_all_moments(self):
        for number in range(60):
            deck, _ = some_deck(number)
            for slide in deck[1]:
                last = len(groups_of(slide[4])) - 1
                for presses in range(last + 1):
                    for time in (None, 0, 1, 2, 3, 5, 8):
                        expected = self.expected(deck, slide, presses, time)
                        self.assertEqual(picture_of(deck, slide[0], presses, time), expected)
                self.assertRaises(NoPress, picture_of, deck, slide[0], last + 1, None)

    def test_what_is_seen(self):
        for number in range(60):
            deck, _ = some_deck(number)
            for slide in deck[1]:
                for presses in range(len(groups_of(slide[4]))):
                    expected = []
                    for place, at, line, state in picture_of(deck, slide[0], presses, 1):
                        laid = laid_at(deck, slide[0], place)
                        wide = worth_at(deck, slide[0], place, "wide")[0]
                        if state != "out":
                            rows = [] if laid is None else rows_of((line,), wide // laid[0])
                            expected.append((place, at, rows, state))
                    self.assertEqual(seen_at(deck, slide[0], presses, 1), expected)


class SeenTest(unittest.TestCase):
    def deck(self, settings, lines, *steps):
        masters = (("m", None, (("p", settings, lines), ("q", (), ("whole line",)))),)
        return (masters, (bare("s", "m", steps=steps),))

    def test_rows_as_they_are_laid(self):
        deck = self.deck((("wide", 8), ("high", 6), ("size", 9)), ("ab cd", "e"))
        self.assertEqual(laid_at(deck, "s", "p"), (2, ["ab", "cd", "e"]))
        rows = [("p", 0, ["ab", "cd"], "here"), ("p", 1, ["e"], "here"), ("q", 0, ["whole line"], "here")]
        self.assertEqual(seen_at(deck, "s", 0, None), rows)

    def test_what_is_out_is_left_out_but_has_its_room(self):
        steps = (("press", 0, "come", "p", 0), ("press", 0, "dim", "p", 1))
        deck = self.deck((("wide", 8), ("high", 6), ("size", 9)), ("ab cd", "e"), *steps)
        line = ("q", 0, ["whole line"], "here")
        self.assertEqual(seen_at(deck, "s", 0, None), [("p", 1, ["e"], "here"), line])
        self.assertEqual(seen_at(deck, "s", 1, None), [("p", 0, ["ab", "cd"], "here"), ("p", 1, ["e"], "here"), line])
        self.assertEqual(seen_at(deck, "s", 2, None), [("p", 0, ["ab", "cd"], "here"), ("p", 1, ["e"], "dim"), line])

    def test_a_place_that_has_no_room(self):
        steps = (("press", 0, "go", "p", 1),)
        deck = self.deck((("wide", 8), ("high", 1)), ("ab", "cd", "e"), *steps)
        self.assertIsNone(laid_at(deck, "s", "p"))
        line = ("q", 0, ["whole line"], "here")
        self.assertEqual(seen_at(deck, "s", 0, 0), [("p", k, [], "here") for k in range(3)] + [line])
        self.assertEqual(seen_at(deck, "s", 1, 0), [("p", 0, [], "here"), ("p", 2, [], "here"), line])

    def test_a_line_without_signs_makes_one_row(self):
        deck = self.deck((), ("", " "))
        self.assertEqual(seen_at(deck, "s", 0, 0)[:2], [("p", 0, [""], "here"), ("p", 1, [""], "here")])

    def test_fields_are_put_in(self):
        deck = self.deck((), ("{name} {n}",))
        self.assertEqual(seen_at(deck, "s", 0, 0)[0], ("p", 0, ["s 1"], "here"))

    def test_the_time(self):
        deck = self.deck((), ("a",), ("with", 3, "come", "p", 0))
        self.assertEqual([row[0] for row in seen_at(deck, "s", 0, 2)], ["q"])
        self.assertEqual([row[0] for row in seen_at(deck, "s", 0, 3)], ["p", "q"])

    def test_the_lists_are_the_askers_own(self):
        deck = self.deck((), ("ab",))
        told = seen_at(deck, "s", 0, None)
        self.assertEqual({type(told), type(told[0][2])}, {list})
        told[0][2].append("more")
        told.clear()
        self.assertEqual(seen_at(deck, "s", 0, None)[0], ("p", 0, ["ab"], "here"))
        deck = self.deck((("high", 1),), ("a", "b"))
        told = seen_at(deck, "s", 0, None)
        told[0][2].append("more")
        self.assertEqual(told[1][2], [])
        self.assertEqual(seen_at(deck, "s", 0, None)[0], ("p", 0, [], "here"))


class RefusalTest(unittest.TestCase):
    def refused(self, error, *others):
        self.assertRaises(error, picture_of, DECK, *others)
        self.assertRaises(error, seen_at, DECK, *others)

    def test_no_slide_alone(self):
        for slide in NO_SLIDES:
            with self.subTest(kind=str(type(slide))):
                self.refused(NoSlide, slide, 0, None)

    def test_no_press_alone(self):
        for presses in NO_PRESSES + (3, 4):
            with self.subTest(kind=str(type(presses))):
                self.refused(NoPress, "one", presses, None)
                self.refused(NoPress, "one", presses, 0)
        self.refused(NoPress, "two", 1, None)
        self.refused(NoPress, "three", 2, 0)

    def test_presses_up_to_the_last_group(self):
        for slide, last in (("one", 2), ("two", 0), ("three", 1)):
            for presses in range(last + 1):
                picture_of(DECK, slide, presses, 0)
                seen_at(DECK, slide, presses, 0)
            self.refused(NoPress, slide, last + 1, 0)

    def test_no_time_alone(self):
        for time in NO_TIMES:
            with self.subTest(kind=str(type(time))):
                self.refused(NoTime, "one", 0, time)
                self.refused(NoTime, "two", 0, time)

    def test_due_at_once(self):
        for bad in NO_TIMES:
            with self.subTest(kind=str(type(bad))):
                self.refused(NoSlide, bad, bad, bad)
                self.refused(NoSlide, bad, bad, 0)
                self.refused(NoSlide, bad, 0, bad)
                self.refused(NoPress, "one", bad, bad)
                self.refused(NoPress, "one", 3, bad)
