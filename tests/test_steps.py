"""Promise 19: the groups of steps, and the time of each step."""

import unittest

from mastershow.errors import NoSteps
from mastershow.steps import groups_of, times_of
from tests.random_decks import some_deck
from tests.things import ONE, STRANGE


def steps(text):
    """Steps by their kinds and waits: p5 is one of press with a wait of 5."""
    kinds = {"p": "press", "w": "with", "a": "after"}
    return tuple((kinds[word[0]], int(word[1:]), "come", "p", None) for word in text.split())


class GroupsTest(unittest.TestCase):
    def told(self, text, *groups):
        self.assertEqual(groups_of(steps(text)), list(groups))

    def test_no_steps(self):
        self.told("", [])

    def test_without_press(self):
        self.told("w0", [0])
        self.told("w0 a1 w2 a3", [0, 1, 2, 3])

    def test_beginning_with_one(self):
        self.told("p0", [], [0])
        self.told("p0 w1 a2", [], [0, 1, 2])

    def test_several(self):
        self.told("p0 p0 p0", [], [0], [1], [2])
        self.told("w0 p1 a1 w2 p3 p4 a5", [0], [1, 2, 3], [4], [5, 6])
        self.told("a0 a1 p0", [0, 1], [2])

    def test_of_a_slide(self):
        self.assertEqual(groups_of(ONE[4]), [[0], [1, 2], [3]])

    def test_24_steps(self):
        self.told("w0 " * 24, list(range(24)))
        self.told("p0 " * 24, [], *[[k] for k in range(24)])

    def test_the_lists_are_the_askers_own(self):
        told = groups_of(steps("w0 p1"))
        self.assertEqual({type(told), type(told[0]), type(told[1])}, {list})
        told[0].append(5)
        told.clear()
        self.told("w0 p1", [0], [1])
        self.told("", [])
        groups_of(())[0].append(0)
        self.told("", [])


class TimesTest(unittest.TestCase):
    def told(self, text, *times):
        self.assertEqual(times_of(steps(text)), list(times))

    def test_no_steps(self):
        self.told("")

    def test_press_and_with_have_their_wait(self):
        self.told("p0", 0)
        self.told("p5 w3 w0 w9", 5, 3, 0, 9)
        self.told("w4 w2", 4, 2)

    def test_each_group_begins_at_nought(self):
        self.told("w4 a2 p1 w2 a3 p0 w1", 4, 6, 1, 2, 5, 0, 1)
        self.told("w9 p0 a2", 9, 0, 2)

    def test_after_at_the_start_of_a_group(self):
        self.told("a7", 7)
        self.told("a7 w1", 7, 1)
        self.told("a0 a0", 0, 0)
        self.told("a3 a4 w1 a2", 3, 7, 4, 9)

    def test_after_behind_others(self):
        self.told("p2 a3", 2, 5)
        self.told("p2 a3 a4", 2, 5, 9)
        self.told("p0 a0 w0", 0, 0, 0)

    def test_with_behind_after_has_its_base(self):
        self.told("p5 a2 w1 w0 a1 w4", 5, 7, 6, 5, 8, 11)

    def test_after_behind_waits_that_are_not_in_order(self):
        self.told("p1 w9 w4 a2 w1", 1, 9, 4, 11, 10)
        self.told("p8 w2 a1 w7 w3 a2", 8, 2, 9, 15, 11, 17)

    def test_the_greatest_time_and_not_that_of_the_last(self):
        self.told("w99 w0 a0", 99, 0, 99)

    def test_greatest_waits(self):
        self.told("a99 " * 24, *[99 * k for k in range(1, 25)])

    def test_of_a_slide(self):
        self.assertEqual(times_of(ONE[4]), [0, 5, 7, 99])

    def test_the_list_is_the_askers_own(self):
        told = times_of(steps("w1 p2"))
        self.assertIs(type(told), list)
        told.clear()
        self.told("w1 p2", 1, 2)

    def test_as_the_document_tells_on_steps_made_by_chance(self):
        for number in range(100):
            deck, _ = some_deck(number)
            for slide in deck[1]:
                groups = groups_of(slide[4])
                times = times_of(slide[4])
                self.assertEqual([k for group in groups for k in group], list(range(len(slide[4]))))
                self.assertEqual(len(times), len(slide[4]))
                for number_of_group, group in enumerate(groups):
                    base = 0
                    for at, k in enumerate(group):
                        kind, wait = slide[4][k][:2]
                        self.assertEqual(kind == "press", at == 0 and number_of_group > 0)
                        if kind == "after":
                            base = max([times[ahead] for ahead in group[:at]] + [0])
                        self.assertEqual(times[k], base + wait)


class RefusalTest(unittest.TestCase):
    def refused(self, thing):
        self.assertRaises(NoSteps, groups_of, thing)
        self.assertRaises(NoSteps, times_of, thing)

    def test_a_list(self):
        self.refused([])
        self.refused(list(ONE[4]))
        self.refused((list(ONE[4][0]),))

    def test_25_steps(self):
        self.refused(steps("p0 " * 25))
        self.refused(steps("w0 " * 25))

    def test_a_step_with_a_thing_wrong(self):
        good = ("press", 0, "go", "p", 0)
        for at, bad in ((0, "pressed"), (1, -1), (1, 100), (2, "gone"), (3, "P"), (4, 12), (4, -1), (1, True), (4, True)):
            with self.subTest(bad):
                step = good[:at] + (bad,) + good[at + 1 :]
                self.refused((step,))
                self.refused((good, step))
        self.refused((good[:4],))
        self.refused((good + (0,),))

    def test_other_kinds(self):
        for thing in STRANGE + (None, 0, 1, "", "press", {}, ((),), ("press", 0, "go", "p", 0)):
            with self.subTest(kind=str(type(thing))):
                self.refused(thing)
