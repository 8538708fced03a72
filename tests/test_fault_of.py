"""Promise 9: the first of the nine faults, with its number."""

import itertools
import unittest

from mastershow.decks import fault_of
from tests.things import DECK, MASTERS, SLIDES, STRANGE, at_way, bare, changed, nodes

PLAIN = (("m", None, ()),)


def masters(*pairs):
    """Masters without places: each a name and its over."""
    return tuple((name, over, ()) for name, over in pairs)


def slides(*names):
    return tuple(bare(name, "m") for name in names)


def linked(name, *targets):
    """A slide with a link to each of these slides."""
    return bare(name, "m", links=tuple((f"p{k}", ("slide", target)) for k, target in enumerate(targets)))


class DeckTest(unittest.TestCase):
    def test_decks(self):
        for deck in (DECK, (PLAIN, ()), (PLAIN, slides("a", "b")), (MASTERS, ()), (MASTERS[::-1], SLIDES[::-1])):
            self.assertIsNone(fault_of(deck))

    def test_what_is_no_tuple_of_two_tuples(self):
        things = (
            None,
            0,
            "",
            "ab",
            (),
            (PLAIN,),
            (PLAIN, (), ()),
            [PLAIN, ()],
            (list(PLAIN), ()),
            (PLAIN, []),
            (PLAIN, list(SLIDES)),
            (None, ()),
            (PLAIN, None),
            (PLAIN, "ab"),
            ("ab", ()),
            (PLAIN, 0),
            ({}, ()),
            (PLAIN, {}),
            MASTERS,
            SLIDES,
        )
        for thing in things + STRANGE:
            with self.subTest(kind=str(type(thing))):
                self.assertEqual(fault_of(thing), ("deck",))

    def test_one_to_twelve_masters(self):
        twelve = masters(*[(f"m{k}", None) for k in range(12)])
        self.assertEqual(fault_of(((), ())), ("deck",))
        self.assertIsNone(fault_of((twelve[:1], ())))
        self.assertIsNone(fault_of((twelve, ())))
        self.assertEqual(fault_of((twelve + masters(("m12", None)), ())), ("deck",))

    def test_at_most_forty_slides(self):
        forty = slides(*[f"s{k}" for k in range(40)])
        self.assertIsNone(fault_of((PLAIN, forty)))
        self.assertEqual(fault_of((PLAIN, forty + slides("s40"))), ("deck",))

    def test_things_of_other_kinds_at_every_depth(self):
        words = ("master", "slide")
        for way in nodes(DECK):
            for thing in STRANGE:
                told = fault_of(changed(DECK, way, thing))
                with self.subTest(way=way, kind=str(type(thing))):
                    if len(way) > 1:
                        self.assertEqual(told, (words[way[0]], way[1]))
                    elif way and isinstance(thing, tuple):
                        self.assertEqual(told, (words[way[0]], 0))
                    else:
                        self.assertEqual(told, ("deck",))

    def test_lists_for_tuples_at_every_depth(self):
        words = ("master", "slide")
        for way in nodes(DECK):
            part = at_way(DECK, way)
            if isinstance(part, tuple):
                expected = (words[way[0]], way[1]) if len(way) > 1 else ("deck",)
                with self.subTest(way):
                    self.assertEqual(fault_of(changed(DECK, way, list(part))), expected)

    def test_none_stands_only_for_an_over_a_text_or_the_line_of_a_step(self):
        for way in nodes(DECK):
            told = fault_of(changed(DECK, way, None))
            over = len(way) == 3 and way[0] == 0 and way[2] == 1
            text = len(way) == 5 and way[0] == 0 and way[4] == 2
            line = len(way) == 5 and way[0] == 1 and way[2] == 4 and way[4] == 4
            with self.subTest(way):
                self.assertEqual(told is None, over or text or line)

    def test_it_is_told_as_a_tuple(self):
        for thing in (None, ((None,), ()), (PLAIN, (None,))):
            self.assertIs(type(fault_of(thing)), tuple)
            self.assertIs(type(fault_of(thing)[0]), str)


class EachFaultTest(unittest.TestCase):
    def told(self, deck, expected):
        self.assertEqual(fault_of(deck), expected)

    def test_master(self):
        bad = ("M", None, ())
        self.told(((bad,), ()), ("master", 0))
        self.told((PLAIN + (bad,), ()), ("master", 1))
        self.told((MASTERS + (bad, bad), ()), ("master", 4))
        self.told(((None,), ()), ("master", 0))
        self.told(((("m", None),), ()), ("master", 0))
        self.told(((("m", None, (("p", (("left", 1000),), None),)),), ()), ("master", 0))

    def test_alike(self):
        self.told((masters(("m", None), ("m", None)), ()), ("alike", 1))
        self.told((masters(("a", None), ("m", None), ("b", None), ("m", "a")), ()), ("alike", 3))
        self.told((masters(("a", None), ("b", None), ("b", None), ("a", None)), ()), ("alike", 2))

    def test_over(self):
        self.told((masters(("m", "none")), ()), ("over", 0))
        self.told((masters(("a", None), ("b", "a"), ("m", "none"), ("c", "other")), ()), ("over", 2))
        self.told((masters(("m", "s")), slides("s")), ("over", 0))

    def test_ring(self):
        self.told((masters(("m", "m")), ()), ("ring", 0))
        self.told((masters(("a", None), ("b", "b")), ()), ("ring", 1))
        self.told((masters(("a", None), ("b", "c"), ("c", "b")), ()), ("ring", 1))
        self.told((masters(("a", None), ("x", "a"), ("b", "d"), ("c", "b"), ("d", "c")), ()), ("ring", 2))

    def test_a_master_that_only_leads_into_a_ring(self):
        self.told((masters(("a", None), ("in", "b"), ("b", "b")), ()), ("ring", 1))
        self.told((masters(("far", "in"), ("in", "b"), ("b", "c"), ("c", "b")), ()), ("ring", 0))
        self.told((masters(("b", "c"), ("c", "b"), ("in", "b")), ()), ("ring", 0))

    def test_slide(self):
        bad = bare("S", "m")
        self.told((PLAIN, (bad,)), ("slide", 0))
        self.told((PLAIN, slides("a", "b") + (bad, bad)), ("slide", 2))
        self.told((PLAIN, (None,)), ("slide", 0))
        self.told((PLAIN, ("abcdefgh",)), ("slide", 0))
        self.told((PLAIN, (PLAIN[0],)), ("slide", 0))

    def test_same(self):
        self.told((PLAIN, slides("a", "a")), ("same", 1))
        self.told((PLAIN, slides("a", "b", "c", "b")), ("same", 3))
        self.told((PLAIN, slides("a", "b", "b", "a")), ("same", 2))

    def test_a_slide_may_have_the_name_of_a_master(self):
        self.told((PLAIN, slides("m")), None)

    def test_under(self):
        self.told((PLAIN, (bare("a", "none"),)), ("under", 0))
        self.told((PLAIN, slides("a", "b") + (bare("c", "b"), bare("d", "none"))), ("under", 2))

    def test_link(self):
        self.told((PLAIN, (linked("a", "none"),)), ("link", 0))
        self.told((PLAIN, (linked("a", "b"), linked("b", "a"), linked("c", "a", "none"), linked("d", "no"))), ("link", 2))
        self.told((PLAIN, (linked("a", "m"),)), ("link", 0))
        self.told((PLAIN, (linked("a", "none", "a"),)), ("link", 0))

    def test_a_link_to_a_slide_that_is_there(self):
        self.told((PLAIN, (linked("a", "b", "a"), linked("b", "b"), linked("c"))), None)
        self.told((PLAIN, (linked("a", "c"), bare("b", "m"), bare("c", "m", hidden=1))), None)

    def test_other_links_lead_to_no_name(self):
        for word in ("first", "last", "return"):
            self.told((PLAIN, (bare("a", "m", links=(("p", (word,)),)),)), None)


MASTER_FAULTS = {
    "master": (("M", None, ()),),
    "alike": masters(("twin", None), ("twin", None)),
    "over": masters(("under", "none")),
    "ring": masters(("round", "round")),
}
SLIDE_FAULTS = {
    "slide": (bare("S", "m"),),
    "same": slides("twin", "twin"),
    "under": (bare("under", "none"),),
    "link": (linked("link", "none"),),
}
NUMBERS = {"alike": 1, "same": 1}


class TwoFaultsTest(unittest.TestCase):
    """Of two faults the one told first is the answer, in whichever order the things stand."""

    def test_two_faults_of_masters(self):
        for (first, early), (second, late) in itertools.combinations(MASTER_FAULTS.items(), 2):
            with self.subTest(first=first, second=second):
                number = NUMBERS.get(first, 0)
                self.assertEqual(fault_of((early + late, ())), (first, number))
                self.assertEqual(fault_of((late + early, ())), (first, len(late) + number))

    def test_two_faults_of_slides(self):
        for (first, early), (second, late) in itertools.combinations(SLIDE_FAULTS.items(), 2):
            with self.subTest(first=first, second=second):
                number = NUMBERS.get(first, 0)
                self.assertEqual(fault_of((PLAIN, early + late)), (first, number))
                self.assertEqual(fault_of((PLAIN, late + early)), (first, len(late) + number))

    def test_faults_of_masters_go_ahead_of_those_of_slides(self):
        for (word, bad), things in itertools.product(MASTER_FAULTS.items(), SLIDE_FAULTS.values()):
            with self.subTest(word):
                self.assertEqual(fault_of((PLAIN + bad, things)), (word, 1 + NUMBERS.get(word, 0)))

    def test_deck_goes_ahead_of_all(self):
        bad = MASTER_FAULTS["master"]
        self.assertEqual(fault_of((bad * 13, ())), ("deck",))
        self.assertEqual(fault_of((bad, SLIDE_FAULTS["slide"] * 41)), ("deck",))
        self.assertEqual(fault_of((bad, [])), ("deck",))
        self.assertEqual(fault_of((bad, (), ())), ("deck",))

    def test_two_faults_at_one_thing(self):
        self.assertEqual(fault_of((masters(("a", "none"), ("a", "a")), ())), ("alike", 1))
        self.assertEqual(fault_of((PLAIN, (bare("a", "m"), linked("a", "none"), bare("a", "none")))), ("same", 1))
        both = bare("a", "none", links=(("p", ("slide", "none")),))
        self.assertEqual(fault_of((PLAIN, (linked("b", "none"), both))), ("under", 1))
