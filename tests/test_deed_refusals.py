"""Promise 30: what each deed refuses, each refusal alone and two and more that are due at once."""

import unittest

from mastershow.deeds import done_deed
from mastershow.errors import (
    NoDeck,
    NoDeed,
    NoLink,
    NoMaster,
    NoName,
    NoNumber,
    NoPlace,
    NoSetting,
    NoSlide,
    NoTrait,
    NoWorth,
    Ring,
    Taken,
    TooMany,
    Used,
)
from tests.things import DECK, MASTERS, ONE, SLIDES, STRANGE, THREE, TWO, bare, changed, nodes, slide_with

OTHERS = STRANGE + (None, 0, 1, "", (), [], ("one",), ["one"], ("leaf",))
NO_SLIDE_NAMES = OTHERS + ("five", "One", "one ", "on", "ones", "leaf", "body")
NO_MASTER_NAMES = OTHERS + ("none", "Leaf", "leaf ", "lea", "leafs", "one", "body")
NO_NAMES = OTHERS + ("One", "one ", "1one", "abcdefghi", "o ne", "-")
NO_PLACES = NO_NAMES + ("none", "leaf", "one", "alone")
NO_NUMBERS = tuple(thing for thing in OTHERS if not isinstance(thing, int) or isinstance(thing, bool)) + (
    -1,
    5,
    10**60,
    -(10**60),
    "0",
)
NO_HIDDEN = tuple(thing for thing in OTHERS if not isinstance(thing, int) or isinstance(thing, bool)) + (-1, 2, "0")
NO_NOTES = tuple(thing for thing in OTHERS if not isinstance(thing, str)) + (
    "x" * 201,
    "a\nb",
    "100%",
    "a\\b",
)

FIVE = bare("five")
STEP = ("press", 0, "come", "body", 0)


def links_of(many, target=("first",)):
    """So many links, by rising places."""
    return tuple((f"p{k:02d}", target) for k in range(many))


def masters_of(many):
    return tuple((f"m{k}", None, ()) for k in range(many))


def slides_of(many, master="m0"):
    return tuple(bare(f"s{k}", master) for k in range(many))


class RefusalTest(unittest.TestCase):
    def refused(self, error, *deed, deck=DECK):
        whole = repr(deck)
        self.assertRaises(error, done_deed, deck, deed)
        self.assertEqual(repr(deck), whole)

    def refused_each(self, error, things, *deed):
        """Refused with each of the things in the place of the dots of the deed."""
        for thing in things:
            with self.subTest(kind=str(type(thing))):
                self.refused(error, *[thing if part is ... else part for part in deed])


class ChangeRefusalTest(RefusalTest):
    """The deeds that refuse as the changes do."""

    def test_set(self):
        self.refused_each(NoMaster, NO_MASTER_NAMES, "set", ..., "body", "left", 1)
        self.refused_each(NoPlace, NO_PLACES, "set", "leaf", ..., "left", 1)
        self.refused_each(NoTrait, OTHERS, "set", "leaf", "body", ..., 1)
        self.refused(NoWorth, "set", "leaf", "body", "wide", 0)
        self.refused(NoWorth, "set", "leaf", "body", "left", True)
        self.refused(NoMaster, "set", "none", "none", "none", None)
        self.refused(NoPlace, "set", "leaf", "none", "none", None)
        self.refused(NoTrait, "set", "leaf", "body", "none", None)

    def test_set_of_a_ninth_place(self):
        masters = (("m", "over", tuple((f"p{k}", (), None) for k in range(8))), ("over", None, (("q", (), None),)))
        self.refused(TooMany, "set", "m", "q", "left", 1, deck=(masters, ()))
        self.refused(TooMany, "set", "m", "q", "none", None, deck=(masters, ()))
        self.refused(TooMany, "text", "m", "q", 5, deck=(masters, ()))
        self.refused(TooMany, "place", "m", "r", deck=(masters, ()))
        self.refused(Taken, "place", "m", "q", deck=(masters, ()))

    def test_unset(self):
        self.refused_each(NoMaster, NO_MASTER_NAMES, "unset", ..., "body", "left")
        self.refused_each(NoPlace, NO_PLACES + ("foot", "note"), "unset", "leaf", ..., "left")
        self.refused_each(NoTrait, OTHERS, "unset", "leaf", "body", ...)
        self.refused(NoSetting, "unset", "leaf", "body", "top")
        self.refused(NoMaster, "unset", "none", "none", "none")
        self.refused(NoPlace, "unset", "leaf", "foot", "none")

    def test_place(self):
        self.refused_each(NoMaster, NO_MASTER_NAMES, "place", ..., "fresh")
        self.refused_each(NoPlace, NO_NAMES, "place", "leaf", ...)
        self.refused(Taken, "place", "leaf", "body")
        self.refused(Taken, "place", "leaf", "foot")
        self.refused(NoMaster, "place", "none", None)

    def test_unplace(self):
        self.refused_each(NoMaster, NO_MASTER_NAMES, "unplace", ..., "body")
        self.refused_each(NoPlace, NO_PLACES + ("foot", "note"), "unplace", "leaf", ...)
        self.refused(NoMaster, "unplace", "none", "none")

    def test_text(self):
        self.refused_each(NoMaster, NO_MASTER_NAMES, "text", ..., "body", ())
        self.refused_each(NoPlace, NO_PLACES, "text", "leaf", ..., ())
        self.refused_each(NoWorth, STRANGE + (0, "", "line", [], ["line"], ("x" * 61,)), "text", "leaf", "body", ...)
        self.refused(NoMaster, "text", "none", "none", 0)
        self.refused(NoPlace, "text", "leaf", "none", 0)

    def test_over(self):
        self.refused_each(NoMaster, NO_MASTER_NAMES, "over", ..., "base")
        self.refused_each(NoMaster, [thing for thing in NO_MASTER_NAMES if thing is not None], "over", "leaf", ...)
        for over in ("leaf", "mid", "base"):
            self.refused(Ring, "over", "base", over)
        self.refused(NoMaster, "over", "none", "none")

    def test_hand(self):
        self.refused_each(NoSlide, NO_SLIDE_NAMES, "hand", ..., "body", "left", 1)
        self.refused_each(NoPlace, NO_PLACES, "hand", "one", ..., "left", 1)
        self.refused_each(NoTrait, OTHERS, "hand", "one", "body", ..., 1)
        self.refused(NoWorth, "hand", "one", "body", "wide", 0)
        self.refused(NoSlide, "hand", "none", "none", "none", None)
        self.refused(NoPlace, "hand", "one", "none", "none", None)
        self.refused(NoTrait, "hand", "one", "body", "none", None)

    def test_free(self):
        self.refused_each(NoSlide, NO_SLIDE_NAMES, "free", ..., "body", "left")
        self.refused_each(NoTrait, OTHERS, "free", "one", "body", ...)
        self.refused_each(NoSetting, NO_PLACES, "free", "one", ..., "left")
        self.refused(NoSetting, "free", "one", "body", "top")
        self.refused(NoSlide, "free", "none", "none", "none")
        self.refused(NoTrait, "free", "one", "none", "none")

    def test_fill(self):
        self.refused_each(NoSlide, NO_SLIDE_NAMES, "fill", ..., "body", ())
        self.refused_each(NoPlace, NO_PLACES + ("lost",), "fill", "one", ..., ())
        self.refused_each(NoWorth, STRANGE + (0, "", "line", [], ["line"], ("x" * 61,)), "fill", "one", "body", ...)
        self.refused_each(NoSetting, NO_PLACES + ("top",), "fill", "one", ..., None)
        self.refused(NoSlide, "fill", "none", "none", 0)
        self.refused(NoSlide, "fill", "none", "none", None)
        self.refused(NoPlace, "fill", "one", "none", 0)

    def test_under(self):
        self.refused_each(NoSlide, NO_SLIDE_NAMES, "under", ..., "leaf")
        self.refused_each(NoMaster, NO_MASTER_NAMES, "under", "one", ...)
        self.refused(NoSlide, "under", "none", "none")


class MasterRefusalTest(RefusalTest):
    def test_master_of_what_is_none(self):
        self.refused_each(NoMaster, OTHERS + ("leaf", "none", MASTERS, SLIDES), "master", ...)
        fresh = ("fresh",) + MASTERS[0][1:]
        for way in nodes(fresh):
            for thing in STRANGE:
                with self.subTest(way=way, kind=str(type(thing))):
                    self.refused(NoMaster, "master", changed(fresh, way, thing))
        self.refused(NoMaster, "master", list(fresh))
        self.refused(NoMaster, "master", fresh + ((),))
        self.refused(NoMaster, "master", fresh[:2])
        self.refused(NoMaster, "master", ("fresh", None, tuple((f"p{k}", (), None) for k in range(9))))
        self.refused(NoMaster, "master", ("fresh", None, (("p", (), None), ("p", (), None))))

    def test_master_of_a_name_that_is_there(self):
        for name in ("leaf", "mid", "base", "other"):
            self.refused(Taken, "master", (name, None, ()))

    def test_a_thirteenth_master(self):
        twelve = (masters_of(12), ())
        self.refused(TooMany, "master", ("fresh", None, ()), deck=twelve)
        self.refused(TooMany, "master", ("fresh", "m3", ()), deck=twelve)

    def test_master_over_one_that_is_not_there(self):
        self.refused(NoMaster, "master", ("fresh", "none", ()))
        self.refused(NoMaster, "master", ("fresh", "one", ()))

    def test_master_over_itself(self):
        self.refused(NoMaster, "master", ("fresh", "fresh", ()))

    def test_master_with_several_due(self):
        twelve = (masters_of(12), ())
        self.refused(Taken, "master", ("leaf", "none", ()))
        self.refused(Taken, "master", ("m3", "none", ()), deck=twelve)
        self.refused(Taken, "master", ("m3", None, ()), deck=twelve)
        self.refused(TooMany, "master", ("fresh", "none", ()), deck=twelve)
        self.refused(TooMany, "master", ("fresh", "fresh", ()), deck=twelve)
        self.refused(NoMaster, "master", ("m3", 5, ()), deck=twelve)
        self.refused(NoMaster, "master", ("leaf", None, None))

    def test_drop_of_what_is_no_name_of_a_master(self):
        self.refused_each(NoMaster, NO_MASTER_NAMES, "drop", ...)
        self.refused(NoMaster, "drop", "none", deck=(masters_of(1), ()))

    def test_drop_of_one_that_is_used(self):
        masters = (("a", None, ()), ("b", "a", ()), ("c", None, ()))
        self.refused(Used, "drop", "a", deck=(masters, ()))
        self.refused(Used, "drop", "c", deck=(masters, (bare("s", "c"),)))
        self.refused(Used, "drop", "b", deck=(masters, (bare("s", "b"),)))
        self.refused(Used, "drop", "c", deck=(masters, (bare("s", "c", hidden=1),)))
        for name in ("leaf", "mid", "base", "other"):
            self.refused(Used, "drop", name)

    def test_drop_of_the_only_one(self):
        self.refused(Used, "drop", "m0", deck=(masters_of(1), ()))
        self.refused(Used, "drop", "m0", deck=(masters_of(1), slides_of(1)))
        done_deed((masters_of(2), ()), ("drop", "m0"))

    def test_rename(self):
        self.refused_each(NoMaster, NO_MASTER_NAMES, "rename", ..., "fresh")
        self.refused_each(NoName, NO_NAMES, "rename", "leaf", ...)
        for name in ("mid", "base", "other"):
            self.refused(Taken, "rename", "leaf", name)

    def test_rename_with_several_due(self):
        self.refused_each(NoMaster, NO_MASTER_NAMES, "rename", ..., None)
        self.refused(NoMaster, "rename", "none", "leaf")
        self.refused(NoMaster, "rename", "none", "none")


class SlideRefusalTest(RefusalTest):
    def test_add_of_what_is_none(self):
        self.refused_each(NoSlide, OTHERS + ("one", "none", SLIDES, MASTERS[0]), "add", 0, ...)
        fresh = slide_with(ONE, name="fresh")
        for way in nodes(fresh):
            for thing in STRANGE:
                with self.subTest(way=way, kind=str(type(thing))):
                    self.refused(NoSlide, "add", 0, changed(fresh, way, thing))
        self.refused(NoSlide, "add", 0, list(fresh))
        self.refused(NoSlide, "add", 0, fresh + ((),))
        self.refused(NoSlide, "add", 0, fresh[:7])
        self.refused(NoSlide, "add", 0, slide_with(fresh, steps=(STEP,) * 25))
        self.refused(NoSlide, "add", 0, slide_with(fresh, links=links_of(13)))
        self.refused(NoSlide, "add", 0, slide_with(fresh, notes="x" * 201))
        self.refused(NoSlide, "add", 0, slide_with(fresh, hidden=2))

    def test_add_of_a_name_that_is_there(self):
        for name in ("one", "two", "three", "four"):
            self.refused(Taken, "add", 0, bare(name))

    def test_a_forty_first_slide(self):
        forty = (masters_of(1), slides_of(40))
        self.refused(TooMany, "add", 0, bare("fresh", "m0"), deck=forty)
        self.refused(TooMany, "add", 40, bare("fresh", "m0"), deck=forty)

    def test_add_under_a_master_that_is_not_there(self):
        self.refused(NoMaster, "add", 0, bare("fresh", "none"))
        self.refused(NoMaster, "add", 0, bare("fresh", "one"))

    def test_add_with_a_link_to_a_slide_that_is_not_there(self):
        for name in ("none", "leaf", "first"):
            self.refused(NoLink, "add", 0, bare("fresh", links=(("p", ("slide", name)),)))
        links = (("p", ("slide", "fresh")), ("q", ("slide", "one")), ("r", ("slide", "none")))
        self.refused(NoLink, "add", 0, bare("fresh", links=links))
        done_deed(DECK, ("add", 0, bare("fresh", links=links[:2])))

    def test_add_at_no_number(self):
        self.refused_each(NoNumber, NO_NUMBERS, "add", ..., FIVE)
        for at in range(5):
            done_deed(DECK, ("add", at, FIVE))
        self.refused(NoNumber, "add", 1, FIVE, deck=(MASTERS, ()))

    def test_add_with_several_due(self):
        full = (masters_of(1), slides_of(40))
        astray = links_of(1, ("slide", "none"))
        self.refused(NoSlide, "add", -1, bare("one", "none", links=astray, hidden=2))
        self.refused(Taken, "add", -1, bare("one", "none", links=astray))
        self.refused(Taken, "add", -1, bare("s3", "none", links=astray), deck=full)
        self.refused(TooMany, "add", -1, bare("fresh", "none", links=astray), deck=full)
        self.refused(NoMaster, "add", -1, bare("fresh", "none", links=astray))
        self.refused(NoLink, "add", -1, bare("fresh", links=astray))
        self.refused(TooMany, "add", 41, bare("fresh", "m0"), deck=full)
        self.refused(NoMaster, "add", -1, bare("fresh", "none"))
        self.refused(NoMaster, "add", 0, bare("fresh", "none", links=astray))

    def test_take(self):
        self.refused_each(NoSlide, NO_SLIDE_NAMES, "take", ...)
        self.refused(NoSlide, "take", "one", deck=(MASTERS, ()))
        self.refused(Used, "take", "three")
        self.refused(Used, "take", "one")

    def test_take_of_a_slide_that_links_to_itself_and_others_do_not(self):
        own = (("p", ("slide", "s0")), ("q", ("slide", "s1")))
        deck = (masters_of(1), (bare("s0", "m0", links=own), bare("s1", "m0")))
        self.assertEqual(done_deed(deck, ("take", "s0")), (masters_of(1), (bare("s1", "m0"),)))
        self.refused(Used, "take", "s1", deck=deck)

    def test_go(self):
        self.refused_each(NoSlide, NO_SLIDE_NAMES, "go", ..., 0)
        self.refused_each(NoNumber, NO_NUMBERS + (4,), "go", "one", ...)
        self.refused_each(NoSlide, NO_SLIDE_NAMES, "go", ..., -1)
        self.refused(NoNumber, "go", "s0", 1, deck=(masters_of(1), slides_of(1)))

    def test_call(self):
        self.refused_each(NoSlide, NO_SLIDE_NAMES, "call", ..., "fresh")
        self.refused_each(NoName, NO_NAMES, "call", "one", ...)
        for name in ("two", "three", "four"):
            self.refused(Taken, "call", "one", name)

    def test_call_with_several_due(self):
        self.refused_each(NoSlide, NO_SLIDE_NAMES, "call", ..., None)
        self.refused(NoSlide, "call", "none", "one")
        self.refused(NoSlide, "call", "none", "none")

    def test_hide(self):
        self.refused_each(NoSlide, NO_SLIDE_NAMES, "hide", ..., 1)
        self.refused_each(NoWorth, NO_HIDDEN, "hide", "one", ...)
        self.refused_each(NoSlide, NO_SLIDE_NAMES, "hide", ..., 2)
        self.refused(NoWorth, "hide", "one", True)
        self.refused(NoWorth, "hide", "one", False)

    def test_note(self):
        self.refused_each(NoSlide, NO_SLIDE_NAMES, "note", ..., "notes")
        self.refused_each(NoWorth, NO_NOTES, "note", "one", ...)
        self.refused_each(NoSlide, NO_SLIDE_NAMES, "note", ..., None)
        done_deed(DECK, ("note", "one", "x" * 200))

    def test_steps(self):
        self.refused_each(NoSlide, NO_SLIDE_NAMES, "steps", ..., ())
        others = [thing for thing in OTHERS if not isinstance(thing, tuple) or thing]
        self.refused_each(NoWorth, others + [STEP, [STEP], (list(STEP),), (STEP[:4],)], "steps", "one", ...)
        self.refused(NoWorth, "steps", "one", (STEP,) * 25)
        self.refused_each(NoSlide, NO_SLIDE_NAMES, "steps", ..., None)
        for way in nodes((STEP,)):
            for thing in STRANGE:
                with self.subTest(way=way, kind=str(type(thing))):
                    self.refused(NoWorth, "steps", "one", changed((STEP,), way, thing))
        done_deed(DECK, ("steps", "one", (STEP,) * 24))

    def test_links(self):
        self.refused_each(NoSlide, NO_SLIDE_NAMES, "links", ..., ())
        others = [thing for thing in OTHERS if not isinstance(thing, tuple) or thing]
        link = ("p", ("slide", "one"))
        self.refused_each(NoWorth, others + [link, [link], (list(link),), (link, link)], "links", "one", ...)
        self.refused(NoWorth, "links", "one", links_of(13))
        self.refused(NoWorth, "links", "one", links_of(2)[::-1])
        for way in nodes((link,)):
            for thing in STRANGE:
                with self.subTest(way=way, kind=str(type(thing))):
                    self.refused(NoWorth, "links", "one", changed((link,), way, thing))
        done_deed(DECK, ("links", "one", links_of(12)))

    def test_links_to_slides_that_are_not_there(self):
        for name in ("none", "leaf", "first"):
            self.refused(NoLink, "links", "one", links_of(1, ("slide", name)))
        self.refused(NoLink, "links", "one", (("a", ("slide", "two")), ("b", ("slide", "none"))))

    def test_links_with_several_due(self):
        self.refused(NoWorth, "links", "one", links_of(13, ("slide", "none")))
        self.refused(NoWorth, "links", "one", (("b", ("slide", "none")), ("a", ("slide", "none"))))
        self.refused(NoSlide, "links", "none", links_of(1, ("slide", "none")))
        self.refused_each(NoSlide, NO_SLIDE_NAMES, "links", ..., None)

    def test_a_slide_that_others_link_to_named_no_more(self):
        slides = (slide_with(ONE, links=()), TWO, slide_with(THREE, links=()))
        self.assertEqual(done_deed((MASTERS, slides), ("take", "three")), (MASTERS, slides[:2]))


class OrderTest(RefusalTest):
    def test_no_deck_then_no_deed_then_the_rest(self):
        self.assertRaises(NoDeck, done_deed, (MASTERS, (ONE,)), ("none",))
        self.assertRaises(NoDeck, done_deed, None, ("take", "none"))
        self.refused(NoDeed, "take", "none", "none")
        self.refused(NoDeed, "steps", "none")
