"""Promise 5: what are masters; each clause is broken alone."""

import unittest

from mastershow.masters import is_masters
from tests.things import MASTERS, STRANGE, at_way, changed, nodes


def with_settings(*settings):
    return (("m", None, (("p", settings, None),)),)


def with_places(*places):
    return (("m", None, places),)


def with_text(text):
    return with_places(("p", (), text))


def may_be_none(way):
    """Whether the way leads to an over or to a text."""
    return (len(way), way[-1:]) in ((2, (1,)), (4, (2,)))


class MastersTest(unittest.TestCase):
    def yes(self, thing):
        self.assertIs(is_masters(thing), True)

    def no(self, thing):
        self.assertIs(is_masters(thing), False)

    def test_masters(self):
        self.yes(MASTERS)
        self.yes((("m", None, ()),))
        self.yes((("plain", None, ()), ("loud", "plain", ())))
        self.yes((("loud", "plain", ()), ("plain", None, ())))
        self.yes(with_places(("p", (), None), ("q", (), ()), ("r", (), ("", "x" * 60))))

    def test_one_to_twelve(self):
        twelve = tuple((f"m{k}", None, ()) for k in range(12))
        self.yes(twelve[:1])
        self.yes(twelve)
        self.no(twelve + (("m12", None, ()),))
        self.no(())

    def test_a_chain_of_twelve(self):
        chain = tuple((f"m{k}", f"m{k + 1}" if k < 11 else None, ()) for k in range(12))
        self.yes(chain)
        self.yes(chain[::-1])

    def test_a_name_told_twice(self):
        self.no((("m", None, ()), ("m", None, ())))
        self.no((("m", None, ()), ("k", "m", ()), ("m", "k", ())))
        self.no((("a", None, ()), ("b", None, ()), ("c", None, ()), ("b", None, ())))

    def test_the_name_is_a_name(self):
        for name in ("", "M", "1m", "abcdefghi", "m\n", "a b"):
            with self.subTest(name):
                self.no(((name, None, ()),))
                self.no((("ok", None, ()), (name, None, ())))

    def test_an_over_that_is_no_master(self):
        self.no((("m", "k", ()),))
        self.no((("a", None, ()), ("b", "a", ()), ("c", "d", ())))
        self.no((("m", "plain", ()),))

    def test_an_over_that_leads_round(self):
        self.no((("m", "m", ()),))
        self.no((("a", "b", ()), ("b", "a", ())))
        self.no((("a", "b", ()), ("b", "c", ()), ("c", "a", ())))
        self.no((("x", None, ()), ("a", "b", ()), ("b", "a", ()), ("y", "x", ())))

    def test_an_over_that_leads_into_a_ring(self):
        self.no((("out", "a", ()), ("a", "b", ()), ("b", "a", ())))
        self.no((("a", "b", ()), ("b", "b", ()), ("c", None, ())))

    def test_several_masters_under_one_are_no_ring(self):
        self.yes((("a", "top", ()), ("b", "top", ()), ("top", None, ()), ("c", "b", ()), ("d", "b", ())))

    def test_eight_and_nine_places(self):
        places = tuple((f"p{k}", (), None) for k in range(9))
        self.yes(with_places(*places[:8]))
        self.no(with_places(*places))

    def test_places_of_one_name(self):
        self.no(with_places(("p", (), None), ("p", (), None)))
        self.no(with_places(("p", (), None), ("q", (), None), ("p", (("left", 1),), ("text",))))

    def test_places_of_one_name_at_two_masters(self):
        self.yes((("a", None, (("p", (), None),)), ("b", "a", (("p", (), None),))))

    def test_the_name_of_a_place_is_a_name(self):
        for name in ("", "P", "1p", "abcdefghi", "p\n", "p q"):
            with self.subTest(name):
                self.no(with_places((name, (), None)))

    def test_settings_in_order(self):
        whole = (("left", 1), ("top", 2), ("wide", 3), ("high", 4), ("size", 5), ("ink", "red"))
        self.yes(with_settings(*whole))
        self.yes(with_settings(*whole[::2]))
        self.yes(with_settings())
        for at in range(5):
            with self.subTest(at):
                self.no(with_settings(whole[at + 1], whole[at]))
                self.no(with_settings(*whole[:at], whole[at + 1], whole[at], *whole[at + 2 :]))
        self.no(with_settings(*whole[::-1]))

    def test_two_settings_of_one_trait(self):
        self.no(with_settings(("left", 1), ("left", 1)))
        self.no(with_settings(("left", 1), ("left", 2)))
        self.no(with_settings(("left", 1), ("ink", "red"), ("ink", "blue")))

    def test_worths_at_and_beyond_their_bounds(self):
        bounds = {"left": (-999, 999), "top": (-999, 999), "wide": (1, 999), "high": (1, 999), "size": (1, 99)}
        for trait, (low, high) in bounds.items():
            with self.subTest(trait):
                self.yes(with_settings((trait, low)))
                self.yes(with_settings((trait, high)))
                self.no(with_settings((trait, low - 1)))
                self.no(with_settings((trait, high + 1)))
        self.yes(with_settings(("ink", "abcdefgh")))
        self.no(with_settings(("ink", "abcdefghi")))
        self.no(with_settings(("ink", 1)))

    def test_true_and_false_are_no_numbers(self):
        for trait in ("left", "top", "wide", "high", "size", "ink"):
            self.no(with_settings((trait, True)))
            self.no(with_settings((trait, False)))

    def test_what_is_no_trait_is_told_and_not_refused(self):
        for trait in ("color", "Left", "", None, 1, True, ["left"], ("left",), (), [], "left\n"):
            with self.subTest(trait):
                self.no(with_settings((trait, 1)))

    def test_texts(self):
        for text in (None, (), ("",), ("a line",) * 12, ("x" * 60,)):
            self.yes(with_text(text))
        for text in ("a line", ["a line"], ("a line",) * 13, ("x" * 61,), ("100%",), ("a\\b",), ("a\nb",), (None,), 0):
            with self.subTest(text):
                self.no(with_text(text))

    def test_tuples_of_another_length(self):
        self.no((("m", None),))
        self.no((("m", None, (), ()),))
        self.no((("m",),))
        self.no(((),))
        self.no(with_places(("p", ())))
        self.no(with_places(("p", (), None, None)))
        self.no(with_places(()))
        self.no(with_settings(("left",)))
        self.no(with_settings(("left", 1, 1)))
        self.no(with_settings(()))

    def test_a_part_in_place_of_the_whole(self):
        self.no(MASTERS[0])
        self.no(("m", None, ()))
        self.no((MASTERS,))
        self.no(None)
        self.no("m")
        self.no("abc")
        self.no(("abc",))
        self.no(0)

    def test_lists_for_tuples_at_every_depth(self):
        for way in nodes(MASTERS):
            part = at_way(MASTERS, way)
            if isinstance(part, tuple):
                with self.subTest(way):
                    self.no(changed(MASTERS, way, list(part)))

    def test_things_of_other_kinds_at_every_depth(self):
        for way in nodes(MASTERS):
            for thing in STRANGE:
                with self.subTest(way=way, thing=str(type(thing))):
                    self.no(changed(MASTERS, way, thing))

    def test_none_stands_only_for_an_over_or_a_text(self):
        for way in nodes(MASTERS):
            with self.subTest(way):
                self.assertIs(is_masters(changed(MASTERS, way, None)), may_be_none(way))
