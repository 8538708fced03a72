"""Promise 29: the twenty-one deeds, each of which tells the deck behind it, and what is no deed."""

import unittest

from mastershow.changes import (
    by_hand,
    fill_place,
    lay_slide,
    lay_under,
    let_go,
    put_place,
    set_text,
    set_trait,
    take_place,
    unset_trait,
)
from mastershow.decks import fault_of
from mastershow.deeds import done_deed
from mastershow.errors import DeckError, NoDeed
from tests.random_decks import some_deck
from tests.random_deeds import some_deed
from tests.things import DECK, FOUR, MASTERS, ONE, SLIDES, STRANGE, THREE, TWO, bare, slide_with

FIVE = slide_with(ONE, name="five")
MORE = ("more", "leaf", (("body", (("left", 2),), ("text",)), ("own", (), None)))

# A deed of each word that the deck of the tests does not refuse.
DEEDS = (
    ("set", "leaf", "body", "left", 1),
    ("unset", "leaf", "body", "left"),
    ("place", "leaf", "fresh"),
    ("unplace", "leaf", "body"),
    ("text", "leaf", "body", ("line",)),
    ("over", "leaf", None),
    ("hand", "one", "body", "left", 1),
    ("free", "one", "body", "left"),
    ("fill", "one", "body", ("line",)),
    ("under", "one", "base"),
    ("master", MORE),
    ("drop", "spare"),
    ("add", 2, FIVE),
    ("take", "two"),
    ("go", "one", 2),
    ("call", "one", "fresh"),
    ("rename", "leaf", "fresh"),
    ("hide", "one", 1),
    ("note", "one", "notes"),
    ("steps", "one", ()),
    ("links", "one", ()),
)
# The deck of the tests with a master that nothing needs.
SPARE = (MASTERS + (("spare", "leaf", ()),), SLIDES)


def renamed(masters, old, fresh):
    return tuple(
        (fresh if name == old else name, fresh if over == old else over, places) for name, over, places in masters
    )


class ChangeTest(unittest.TestCase):
    """The deeds that the changes tell, too."""

    def told(self, deed, expected):
        self.assertEqual(done_deed(DECK, deed), expected)
        self.assertNotEqual(expected, DECK)

    def test_set(self):
        self.told(("set", "leaf", "body", "left", 1), set_trait(DECK, "leaf", "body", "left", 1))
        self.told(("set", "leaf", "foot", "ink", "x"), set_trait(DECK, "leaf", "foot", "ink", "x"))

    def test_unset(self):
        self.told(("unset", "leaf", "body", "left"), unset_trait(DECK, "leaf", "body", "left"))

    def test_place(self):
        self.told(("place", "leaf", "fresh"), put_place(DECK, "leaf", "fresh"))

    def test_unplace(self):
        self.told(("unplace", "leaf", "body"), take_place(DECK, "leaf", "body"))

    def test_text(self):
        self.told(("text", "leaf", "body", ("line",)), set_text(DECK, "leaf", "body", ("line",)))
        self.told(("text", "leaf", "top", None), set_text(DECK, "leaf", "top", None))

    def test_over(self):
        self.told(("over", "leaf", "other"), lay_under(DECK, "leaf", "other"))
        self.told(("over", "leaf", None), lay_under(DECK, "leaf", None))

    def test_hand(self):
        self.told(("hand", "one", "body", "left", 1), by_hand(DECK, "one", "body", "left", 1))

    def test_free(self):
        self.told(("free", "one", "body", "left"), let_go(DECK, "one", "body", "left"))
        self.told(("free", "one", "gone", "size"), let_go(DECK, "one", "gone", "size"))

    def test_fill(self):
        self.told(("fill", "one", "body", ("line",)), fill_place(DECK, "one", "body", ("line",)))
        self.told(("fill", "one", "body", None), fill_place(DECK, "one", "body", None))
        self.told(("fill", "one", "lost", None), fill_place(DECK, "one", "lost", None))

    def test_under(self):
        self.told(("under", "one", "base"), lay_slide(DECK, "one", "base"))


class MasterTest(unittest.TestCase):
    def told(self, deed, masters, slides=SLIDES):
        self.assertEqual(done_deed(DECK, deed), (masters, slides))

    def test_a_master_is_put_behind_the_others(self):
        self.told(("master", MORE), MASTERS + (MORE,))
        self.told(("master", ("a", None, ())), MASTERS + (("a", None, ()),))

    def test_a_twelfth_master(self):
        eleven = (tuple((f"m{k}", None, ()) for k in range(11)), ())
        self.assertEqual(done_deed(eleven, ("master", MORE[:1] + ("m3", ()))), (eleven[0] + (("more", "m3", ()),), ()))

    def test_a_master_is_taken_out(self):
        self.assertEqual(done_deed(SPARE, ("drop", "spare")), DECK)
        masters = (("a", None, ()), ("b", None, ()), ("c", "b", ()))
        deck = (masters, (bare("s", "c"),))
        self.assertEqual(done_deed(deck, ("drop", "a")), (masters[1:], deck[1]))
        self.assertEqual(done_deed((masters, ()), ("drop", "c")), (masters[:2], ()))

    def test_a_master_gets_another_name(self):
        for name, place in (("leaf", 0), ("base", 1), ("other", 2), ("mid", 3)):
            slides = list(SLIDES)
            slides[place] = slide_with(SLIDES[place], master="fresh")
            self.told(("rename", name, "fresh"), renamed(MASTERS, name, "fresh"), tuple(slides))

    def test_overs_and_slides_follow(self):
        masters = (("a", "b", ()), ("b", None, ()), ("c", "b", ()), ("d", "a", ()))
        slides = (bare("s", "b"), bare("t", "a"), bare("u", "b"))
        expected = (("a", "x", ()), ("x", None, ()), ("c", "x", ()), ("d", "a", ()))
        told = done_deed((masters, slides), ("rename", "b", "x"))
        self.assertEqual(told, (expected, (bare("s", "x"), bare("t", "a"), bare("u", "x"))))

    def test_a_master_renamed_as_itself(self):
        for name in ("leaf", "mid", "base", "other"):
            self.told(("rename", name, name), MASTERS)

    def test_a_master_renamed_as_a_slide_or_a_place(self):
        for name in ("one", "body"):
            slides = (slide_with(ONE, master=name), TWO, THREE, FOUR)
            self.told(("rename", "leaf", name), renamed(MASTERS, "leaf", name), slides)

    def test_places_of_the_name_do_not_follow(self):
        masters = (("p", None, (("p", (("ink", "p"),), ("p",)),)),)
        slide = bare("p", "p", hands=(("p", "ink", "p"),), fills=(("p", ("p",)),), links=(("p", ("slide", "p")),))
        told = done_deed((masters, (slide,)), ("rename", "p", "q"))
        self.assertEqual(told, ((("q",) + masters[0][1:],), (slide_with(slide, master="q"),)))


class SlideTest(unittest.TestCase):
    def told(self, deed, *slides):
        self.assertEqual(done_deed(DECK, deed), (MASTERS, slides))

    def test_a_slide_is_put_in_at_each_place(self):
        for at in range(5):
            self.told(("add", at, FIVE), *SLIDES[:at], FIVE, *SLIDES[at:])

    def test_a_slide_put_in_where_there_is_none(self):
        self.assertEqual(done_deed((MASTERS, ()), ("add", 0, TWO)), (MASTERS, (TWO,)))

    def test_a_slide_that_links_to_itself_is_put_in_and_taken(self):
        own = bare("own", links=(("a", ("slide", "own")), ("b", ("slide", "one")), ("c", ("first",))))
        there = (MASTERS, (ONE, own, TWO, THREE, FOUR))
        self.assertEqual(done_deed(DECK, ("add", 1, own)), there)
        self.assertEqual(done_deed(there, ("take", "own")), DECK)

    def test_a_fortieth_slide(self):
        slides = tuple(bare(f"s{k}") for k in range(39))
        self.assertEqual(done_deed((MASTERS, slides), ("add", 39, TWO)), (MASTERS, slides + (TWO,)))

    def test_a_slide_is_taken_out(self):
        self.told(("take", "two"), ONE, THREE, FOUR)
        self.told(("take", "four"), ONE, TWO, THREE)
        self.assertEqual(done_deed((MASTERS, (TWO,)), ("take", "two")), (MASTERS, ()))

    def test_a_slide_that_links_to_others_is_taken_out(self):
        deck = (MASTERS, (bare("a", links=(("p", ("slide", "b")),)), bare("b")))
        self.assertEqual(done_deed(deck, ("take", "a")), (MASTERS, (bare("b"),)))

    def test_a_slide_goes_to_each_place(self):
        for slide in SLIDES:
            others = tuple(other for other in SLIDES if other != slide)
            for at in range(4):
                self.told(("go", slide[0], at), *others[:at], slide, *others[at:])

    def test_the_only_slide_goes(self):
        deck = (MASTERS, (TWO,))
        self.assertEqual(done_deed(deck, ("go", "two", 0)), deck)

    def test_a_slide_gets_another_name(self):
        self.told(("call", "two", "fresh"), ONE, slide_with(TWO, name="fresh"), THREE, FOUR)

    def test_links_follow(self):
        links = (("alone", ("slide", "fresh")),)
        self.told(("call", "one", "fresh"), slide_with(ONE, name="fresh"), TWO, slide_with(THREE, links=links), FOUR)
        links = (("body", ("slide", "fresh")),) + ONE[5][1:]
        self.told(("call", "three", "fresh"), slide_with(ONE, links=links), TWO, slide_with(THREE, name="fresh"), FOUR)

    def test_links_of_a_slide_to_itself_follow(self):
        links = (("a", ("slide", "s")), ("b", ("slide", "t")), ("c", ("slide", "s")), ("d", ("return",)))
        expected = (("a", ("slide", "x")), ("b", ("slide", "t")), ("c", ("slide", "x")), ("d", ("return",)))
        told = done_deed((MASTERS, (bare("s", links=links), bare("t"))), ("call", "s", "x"))
        self.assertEqual(told, (MASTERS, (bare("x", links=expected), bare("t"))))

    def test_slides_called_as_links_are(self):
        links = (("a", ("first",)), ("b", ("last",)), ("c", ("return",)), ("d", ("slide", "first")))
        slides = (bare("first", links=links), bare("t"))
        told = done_deed((MASTERS, slides), ("call", "first", "last"))
        self.assertEqual(told, (MASTERS, (bare("last", links=links[:3] + (("d", ("slide", "last")),)), bare("t"))))
        told = done_deed((MASTERS, slides), ("call", "t", "slide"))
        self.assertEqual(told, (MASTERS, (slides[0], bare("slide"))))

    def test_a_slide_called_as_itself(self):
        for name in ("one", "two", "three", "four"):
            self.told(("call", name, name), *SLIDES)

    def test_a_slide_called_as_a_master_or_a_place(self):
        for name in ("leaf", "body"):
            self.told(("call", "two", name), ONE, slide_with(TWO, name=name), THREE, FOUR)

    def test_a_slide_is_hidden_or_not(self):
        self.told(("hide", "one", 1), slide_with(ONE, hidden=1), TWO, THREE, FOUR)
        self.told(("hide", "two", 0), ONE, slide_with(TWO, hidden=0), THREE, FOUR)
        self.told(("hide", "one", 0), *SLIDES)
        self.told(("hide", "two", 1), *SLIDES)

    def test_a_slide_gets_notes(self):
        for notes in ("", " ", "fresh notes", "y" * 200):
            self.told(("note", "one", notes), slide_with(ONE, notes=notes), TWO, THREE, FOUR)

    def test_a_slide_gets_steps(self):
        for many in (0, 1, 24):
            steps = (("after", 99, "dim", "none", 11),) * many
            self.told(("steps", "one", steps), slide_with(ONE, steps=steps), TWO, THREE, FOUR)

    def test_a_slide_gets_links(self):
        twelve = tuple((f"p{k:02d}", ("slide", "two")) for k in range(12))
        for links in ((), twelve[:1], twelve, (("x", ("slide", "one")),), (("x", ("return",)),)):
            self.told(("links", "one", links), slide_with(ONE, links=links), TWO, THREE, FOUR)


class AllTest(unittest.TestCase):
    def test_there_are_twenty_one(self):
        self.assertEqual(len({deed[0] for deed in DEEDS}), 21)

    def test_each_is_done_and_tells_a_deck(self):
        whole = repr(SPARE)
        for deed in DEEDS:
            with self.subTest(deed[0]):
                told = done_deed(SPARE, deed)
                self.assertIsNone(fault_of(told))
                self.assertNotEqual(told, SPARE)
                self.assertEqual(done_deed(SPARE, deed), told)
                self.assertEqual(repr(SPARE), whole)

    def test_decks_made_by_chance(self):
        done = 0
        for number in range(100):
            deck, chance = some_deck(number)
            for _ in range(20):
                whole = repr(deck)
                try:
                    fresh = done_deed(deck, some_deed(chance, deck))
                except DeckError:
                    fresh = deck
                else:
                    done += 1
                self.assertIsNone(fault_of(fresh))
                self.assertEqual(repr(deck), whole)
                deck = fresh
        self.assertGreater(done, 900)


class NoDeedTest(unittest.TestCase):
    def refused(self, thing):
        self.assertRaises(NoDeed, done_deed, SPARE, thing)

    def test_a_thing_more_and_a_thing_less(self):
        for deed in DEEDS:
            with self.subTest(deed[0]):
                self.refused(deed + (None,))
                self.refused(deed + ("body",))
                self.refused(deed + (0,))
                self.refused(deed[:-1])
                self.refused(deed[:1])
                self.refused(deed + deed)

    def test_a_list(self):
        for deed in DEEDS:
            with self.subTest(deed[0]):
                self.refused(list(deed))
                self.refused((list(deed),))
                self.refused((deed,))
                self.refused(({},) + deed[1:])
                self.refused(([deed[0]],) + deed[1:])

    def test_its_word_in_great_letters_or_changed_otherwise(self):
        for deed in DEEDS:
            with self.subTest(deed[0]):
                word = deed[0]
                for other in (word.upper(), word.title(), word + " ", " " + word, word + "s", word[:-1], word + "\n"):
                    if other not in [known[0] for known in DEEDS]:
                        self.refused((other,) + deed[1:])

    def test_the_word_of_a_deed_of_more_or_fewer_things(self):
        self.refused(("set", "leaf", "body", "left"))
        self.refused(("unset", "leaf", "body", "left", 1))
        self.refused(("hide", "one"))
        self.refused(("take", "one", 1))

    def test_no_tuple(self):
        for thing in STRANGE + (None, 0, 1, "", "take", "take two", ["take", "two"], {"take": "two"}):
            with self.subTest(kind=str(type(thing))):
                self.refused(thing)

    def test_a_tuple_that_begins_with_no_word(self):
        for thing in STRANGE + (None, 0, 1, "", ("take",), ["take"], b"take", "none", "deed", "do", "undo"):
            for many in range(6):
                with self.subTest(kind=str(type(thing))):
                    self.refused((thing,) + ("two",) * many)

    def test_a_tuple_of_none_and_a_tuple_of_tuples(self):
        self.refused(())
        self.refused(((),))
        self.refused(((), ()))
        self.refused((("take", "two"),))
        self.refused((("take", "two"), ("take", "four")))

    def test_it_goes_ahead_of_what_else_is_due(self):
        self.refused(("take", "none", "none"))
        self.refused(("master", None, None))
        self.refused(("TAKE", "none"))
