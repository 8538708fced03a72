"""Promise 32: slides brought from another deck, with the masters that they need."""

import unittest

from mastershow.bringing import brought_in
from mastershow.decks import fault_of
from mastershow.errors import NoDeck, NoNumber, NoSlide, Taken, TooMany
from mastershow.lines import lines_at
from mastershow.masters import chain_of, places_of
from mastershow.worths import sheet_of, strays_of
from tests.random_decks import some_deck
from tests.things import DECK, FOUR, MASTERS, NO_DECKS, ONE, SLIDES, STRANGE, THREE, TWO, Stranger, bare, slide_with

OTHERS = STRANGE + (None, 0, 1, "", (), [], ("one",), ["one"])
NO_SLIDES = OTHERS + ("five", "One", "one ", "on", "ones", "leaf", "body")
NO_NUMBERS = tuple(thing for thing in STRANGE if not isinstance(thing, int) or isinstance(thing, bool)) + (
    None,
    "",
    "0",
    (),
    [0],
    -1,
    10**60,
    -(10**60),
)

PLACE = ("p", (("left", 1), ("ink", "red")), ("line", ""))
TOP = ("top", None, (PLACE, ("q", (), None)))
LOW = ("low", "top", (("p", (("size", 2),), None), ("r", (), ("r",))))
HERE = ((TOP, LOW, ("m", None, ())), (bare("a", "low"), bare("b", "m")))


def masters_named(*names):
    return tuple((name, None, ()) for name in names)


def slides_named(*names, master="m"):
    return tuple(bare(name, master) for name in names)


def without_fields(thing):
    """A deck without fields in its lines."""
    if isinstance(thing, tuple):
        return tuple(without_fields(part) for part in thing)
    return thing.replace("{", "(") if isinstance(thing, str) else thing


class BroughtTest(unittest.TestCase):
    def told(self, deck, other, names, at, expected, masters, slides, links=()):
        whole = repr((deck, other, names))
        told = brought_in(deck, other, names, at)
        self.assertEqual(told, (expected, list(masters), list(slides), list(links)))
        self.assertIsNone(fault_of(told[0]))
        self.assertEqual(repr((deck, other, names)), whole)


class PlaceTest(BroughtTest):
    """Where the slides are put."""

    OTHER = (masters_named("m"), slides_named("x", "y", "z"))

    def put(self, names, at, *expected):
        deck = (masters_named("m"), slides_named("a", "b"))
        slides = slides_named(*expected)
        pairs = [(name, name) for name in names]
        needed = [("m", "m")] if names else []
        self.told(deck, self.OTHER, names, at, (deck[0], slides), needed, pairs)

    def test_no_slides(self):
        for at in range(3):
            self.put([], at, "a", "b")

    def test_at_both_ends_and_between(self):
        self.put(["x", "z"], 0, "x", "z", "a", "b")
        self.put(["x", "z"], 1, "a", "x", "z", "b")
        self.put(["x", "z"], 2, "a", "b", "x", "z")

    def test_in_another_order_than_the_other_decks(self):
        self.put(["z", "x", "y"], 1, "a", "z", "x", "y", "b")

    def test_to_a_deck_without_slides(self):
        deck = (masters_named("m"), ())
        expected = (deck[0], slides_named("y"))
        self.told(deck, self.OTHER, ["y"], 0, expected, [("m", "m")], [("y", "y")])


class MastersTest(BroughtTest):
    """Which masters come with them, and under which names."""

    def brought(self, others, master, masters, *fresh, deck=HERE):
        """A slide x under this master of the others, brought to a deck behind all; the pairs of masters."""
        pairs = [tuple(pair.split(">")) for pair in masters.split()]
        (here,) = [name for own, name in pairs if own == master]
        expected = (deck[0] + fresh, deck[1] + (bare("x", here),))
        other = (others, (bare("x", master),))
        self.told(deck, other, ["x"], len(deck[1]), expected, pairs, [("x", "x")])

    def test_one_that_both_decks_have_alike(self):
        self.brought((TOP, LOW), "low", "top>top low>low")
        self.brought((TOP, LOW), "top", "top>top")
        self.brought((LOW, TOP), "low", "low>low top>top")

    def test_one_that_the_deck_does_not_have(self):
        self.brought((("n", None, (PLACE,)),), "n", "n>n", ("n", None, (PLACE,)))

    def test_one_under_a_master_that_both_have(self):
        under = ("under", "low", (PLACE,))
        self.brought((under, TOP, LOW), "under", "under>under top>top low>low", under)

    def test_one_that_no_slide_needs(self):
        self.brought((TOP, ("n", "top", ()), ("o", None, ()), LOW), "low", "top>top low>low")
        self.brought((("n", None, ()), ("o", "n", ())), "n", "n>n", ("n", None, ()))

    def test_another_setting(self):
        for place in (("p", (("left", 2), ("ink", "red")), ("line", "")), ("p", (("left", 1),), ("line", ""))):
            top = ("top", None, (place, ("q", (), None)))
            self.brought((top,), "top", "top>top2", ("top2",) + top[1:])

    def test_another_text(self):
        for text in (("line",), ("line", " "), (), None, ("", "line")):
            top = ("top", None, (PLACE[:2] + (text,), ("q", (), None)))
            self.brought((top,), "top", "top>top2", ("top2",) + top[1:])

    def test_no_lines_and_none(self):
        for text in ((), None):
            deck = ((("m", None, (("p", (), text),)),), ())
            for other in ((), None):
                masters = (("m", None, (("p", (), other),)),)
                if text == other:
                    self.brought(masters, "m", "m>m", deck=deck)
                else:
                    self.brought(masters, "m", "m>m2", ("m2",) + masters[0][1:], deck=deck)

    def test_another_place(self):
        for places in (TOP[2][:1], TOP[2] + (("s", (), None),), (PLACE, ("s", (), None)), ()):
            self.brought((("top", None, places),), "top", "top>top2", ("top2", None, places))

    def test_another_order_of_places(self):
        self.brought((("top", None, TOP[2][::-1]),), "top", "top>top2", ("top2", None, TOP[2][::-1]))

    def test_another_over(self):
        over = ("else", None, TOP[2])
        low = ("low", "else", LOW[2])
        self.brought((over, low), "low", "else>else low>low2", over, ("low2", "else", LOW[2]))

    def test_no_over_or_one_more(self):
        low = ("low", None, LOW[2])
        self.brought((low,), "low", "low>low2", ("low2",) + low[1:])
        masters = (LOW, ("top", "more", TOP[2]), ("more", None, ()))
        fresh = (("low2", "top2", LOW[2]), ("top2", "more", TOP[2]), masters[2])
        self.brought(masters, "low", "low>low2 top>top2 more>more", *fresh)

    def test_another_master_over_it_alike_by_name(self):
        """The master itself is alike, but what stands over it is not."""
        top = ("top", None, (("p", (), None),))
        fresh = (("top2",) + top[1:], ("low2", "top2", LOW[2]))
        self.brought((top, LOW), "low", "top>top2 low>low2", *fresh)

    def test_the_deck_has_a_master_under_it_that_the_other_has_not(self):
        self.brought((TOP,), "top", "top>top")

    def test_some_alike_and_some_not(self):
        masters = (("n", "low", ()), LOW, ("m", "top", ()), TOP)
        slides = (bare("x", "n"), bare("y", "m"))
        expected = (HERE[0] + (masters[0], ("m2", "top", ())), HERE[1] + (slides[0], bare("y", "m2")))
        pairs = [("n", "n"), ("low", "low"), ("m", "m2"), ("top", "top")]
        self.told(HERE, (masters, slides), ["x", "y"], 2, expected, pairs, [("x", "x"), ("y", "y")])
        expected = (HERE[0] + (("m2", "top", ()),), HERE[1] + (bare("y", "m2"),))
        self.told(HERE, (masters, slides), ["y"], 2, expected, [pairs[2], pairs[3]], [("y", "y")])

    def test_an_over_that_is_put_behind_it(self):
        """The masters are put in the other deck's order, also where one stands ahead of its over."""
        masters = (("a", "b", ()), ("b", "c", ()), ("c", None, ()))
        deck = (masters_named("c"), ())
        self.brought(masters, "a", "a>a b>b c>c", *masters[:2], deck=deck)
        deck = (masters_named("b"), ())
        self.brought(masters, "a", "a>a b>b2 c>c", ("a", "b2", ()), ("b2", "c", ()), ("c", None, ()), deck=deck)

    def test_the_slides_order_makes_no_odds_to_the_masters(self):
        masters = masters_named("n", "o", "q")
        slides = (bare("x", "q"), bare("y", "n"))
        for names in (["x", "y"], ["y", "x"]):
            told = brought_in(HERE, (masters, slides), names, 0)
            self.assertEqual(told[0][0], HERE[0] + (masters[0], masters[2]))
            self.assertEqual(told[1], [("n", "n"), ("q", "q")])

    def test_twelve_masters_in_a_chain(self):
        masters = tuple((f"m{k}", f"m{k + 1}" if k < 11 else None, (PLACE,)) for k in range(12))
        deck = (masters, ())
        pairs = " ".join(f"m{k}>m{k}" for k in range(12))
        self.brought(masters, "m0", pairs, deck=deck)


class NamesTest(BroughtTest):
    """The first names that are free, of masters and of slides."""

    def named(self, taken, names, expected):
        """The names that slides and masters get where these are taken."""
        taken, names, expected = taken.split(), names.split(), expected.split()
        deck = (masters_named("m"), slides_named(*taken))
        other = (masters_named("m"), slides_named(*names))
        there = (deck[0], deck[1] + slides_named(*expected))
        self.told(deck, other, names, len(taken), there, [("m", "m")], zip(names, expected))
        if taken and len(taken) + len(names) <= 12:
            self.named_masters(taken, names, expected)

    def named_masters(self, taken, names, expected):
        place = (("p", (), None),)
        deck = (masters_named(*taken), ())
        others = tuple((name, None, place) for name in names)
        other = (others, tuple(bare(f"s{k}", name) for k, name in enumerate(names)))
        masters = deck[0] + tuple((name, None, place) for name in expected)
        slides = [slide[0] for slide in other[1]]
        there = (masters, tuple(slide_with(slide, master=name) for slide, name in zip(other[1], expected)))
        self.told(deck, other, slides, 0, there, zip(names, expected), zip(slides, slides))

    def test_its_own(self):
        self.named("a b", "c d", "c d")

    def test_with_two_and_more_behind_it(self):
        self.named("a", "a", "a2")
        self.named("a a2", "a", "a3")
        self.named("a a3", "a", "a2")
        self.named("a a2 a3 a4", "a", "a5")

    def test_a_name_that_ends_with_a_figure(self):
        self.named("a2", "a2", "a22")
        self.named("a1 a12", "a1", "a13")
        self.named("a9", "a9", "a92")

    def test_a_name_of_eight_signs(self):
        self.named("abcdefgh", "abcdefgh", "abcdefg2")
        self.named("abcdefgh abcdefg2", "abcdefgh", "abcdefg3")
        self.named("abcdefg2", "abcdefg2", "abcdefg3")
        self.named("abcdefg", "abcdefg", "abcdefg2")
        self.named("abcdefg abcdefg2", "abcdefg", "abcdefg3")

    def test_numbers_up_to_ten_and_more_that_are_there(self):
        nine = "a " + " ".join(f"a{k}" for k in range(2, 10))
        self.named(nine, "a", "a10")
        self.named(nine + " a10 a11", "a", "a12")
        long = "abcdefgh " + " ".join(f"abcdefg{k}" for k in range(2, 10))
        self.named(long, "abcdefgh", "abcdef10")
        self.named(long + " abcdef10", "abcdefgh", "abcdef11")
        seven = "abcdefg " + " ".join(f"abcdefg{k}" for k in range(2, 10))
        self.named(seven, "abcdefg", "abcdef10")
        six = "abcdef " + " ".join(f"abcdef{k}" for k in range(2, 10))
        self.named(six, "abcdef", "abcdef10")

    def test_names_of_what_was_put_so_far(self):
        self.named("a", "a a2", "a2 a22")
        self.named("a", "a2 a", "a2 a3")
        self.named("a a2", "a2 a a3", "a22 a3 a32")
        self.named("abcdefgh", "abcdefgh abcdefg2", "abcdefg2 abcdefg3")

    def test_names_of_what_comes_later_are_free(self):
        self.named("a", "a a2 a3", "a2 a22 a3")

    def test_a_slide_may_be_called_as_a_master(self):
        deck = (masters_named("m", "x"), slides_named("m"))
        other = (masters_named("m"), slides_named("x"))
        self.told(deck, other, ["x"], 1, (deck[0], deck[1] + slides_named("x")), [("m", "m")], [("x", "x")])

    def test_a_master_that_no_slide_needs_takes_no_name(self):
        other = ((("a2", None, (PLACE,)), ("a", None, (PLACE,))), (bare("x", "a"),))
        deck = (masters_named("a"), ())
        expected = (deck[0] + (("a2", None, (PLACE,)),), (bare("x", "a2"),))
        self.told(deck, other, ["x"], 0, expected, [("a", "a2")], [("x", "x")])


class LinksTest(BroughtTest):
    LINKS = (
        ("a", ("slide", "x")),
        ("b", ("first",)),
        ("c", ("slide", "y")),
        ("d", ("last",)),
        ("e", ("slide", "z")),
        ("f", ("return",)),
    )

    def setUp(self):
        slides = (bare("x", "m", links=self.LINKS), bare("y", "m", links=self.LINKS[4:]), bare("z", "m"))
        self.other = (masters_named("m"), slides)

    def test_among_the_brought_slides(self):
        deck = (masters_named("m"), slides_named("x", "y", "y2"))
        names = {"x": "x2", "y": "y3", "z": "z"}
        links = tuple(
            (place, ("slide", names[target[1]]) if target[0] == "slide" else target) for place, target in self.LINKS
        )
        slides = (bare("z", "m"), bare("y3", "m", links=links[4:]), bare("x2", "m", links=links))
        pairs = [("z", "z"), ("y", "y3"), ("x", "x2")]
        self.told(deck, self.other, ["z", "y", "x"], 3, (deck[0], deck[1] + slides), [("m", "m")], pairs)

    def test_to_themselves(self):
        deck = (masters_named("m"), slides_named("x"))
        links = (("a", ("slide", "x2")), ("b", ("first",)), ("d", ("last",)), ("f", ("return",)))
        expected = (deck[0], (bare("x2", "m", links=links),) + deck[1])
        self.told(deck, self.other, ["x"], 0, expected, [("m", "m")], [("x", "x2")], [("x2", "c"), ("x2", "e")])

    def test_to_slides_left_behind(self):
        deck = (masters_named("m"), ())
        slides = (bare("y", "m", links=self.LINKS[5:]), bare("x", "m", links=self.LINKS[:4] + self.LINKS[5:]))
        links = [("y", "e"), ("x", "e")]
        pairs = [("y", "y"), ("x", "x")]
        self.told(deck, self.other, ["y", "x"], 0, (deck[0], slides), [("m", "m")], pairs, links)

    def test_to_slides_left_behind_of_which_the_deck_has_the_names(self):
        deck = (masters_named("m"), slides_named("z", "first"))
        expected = (deck[0], deck[1] + (bare("y", "m", links=self.LINKS[5:]),))
        self.told(deck, self.other, ["y"], 2, expected, [("m", "m")], [("y", "y")], [("y", "e")])

    def test_the_decks_own_links_stay(self):
        own = (("p", ("slide", "x")), ("q", ("slide", "own")))
        deck = (masters_named("m"), (bare("own", "m", links=own), bare("x", "m")))
        told = brought_in(deck, self.other, ["x", "y", "z"], 1)[0]
        self.assertEqual((told[1][0], told[1][4]), deck[1])

    def test_two_slides_that_swap_names(self):
        """A link follows the slide it led to, also where another one has its old name now."""
        other = (masters_named("m"), (bare("a", "m", links=(("p", ("slide", "a2")),)), bare("a2", "m")))
        deck = (masters_named("m"), slides_named("a"))
        slides = (bare("a2", "m", links=(("p", ("slide", "a22")),)), bare("a22", "m"))
        pairs = [("a", "a2"), ("a2", "a22")]
        self.told(deck, other, ["a", "a2"], 1, (deck[0], deck[1] + slides), [("m", "m")], pairs)

    def test_what_a_left_out_link_alone_named_strays_no_more(self):
        links = (("away", ("slide", "x")), ("both", ("slide", "x")), ("stay", ("first",)))
        slide = bare("s", "m", links=links, fills=(("both", ()), ("fill", ())))
        other = (masters_named("m"), (slide, bare("x", "m")))
        self.assertEqual(strays_of(other, "s"), ["away", "both", "fill", "stay"])
        told, _, _, left_out = brought_in((masters_named("m"), ()), other, ["s"], 0)
        self.assertEqual(strays_of(told, "s"), ["both", "fill", "stay"])
        self.assertEqual(left_out, [("s", "away"), ("s", "both")])


class WholeTest(BroughtTest):
    def test_all_else_of_a_slide_stays(self):
        deck = (MASTERS, (FOUR,))
        expected = (MASTERS, (ONE, THREE, FOUR))
        pairs = [("mid", "mid"), ("other", "other"), ("leaf", "leaf"), ("base", "base")]
        self.told(deck, DECK, ["one", "three"], 0, expected, pairs, [("one", "one"), ("three", "three")])

    def test_hidden_slides(self):
        expected = (MASTERS, (TWO,))
        self.told((MASTERS, ()), DECK, ["two"], 0, expected, [("base", "base")], [("two", "two")])

    def test_from_a_deck_to_itself(self):
        names = ["one", "two", "three", "four"]
        called = {"one": "one2", "two": "two2", "three": "three2", "four": "four2"}
        links = {"one": (("body", ("slide", "three2")),) + ONE[5][1:], "three": (("alone", ("slide", "one2")),)}
        slides = tuple(
            slide_with(slide, name=called[slide[0]], links=links.get(slide[0], ())) for slide in SLIDES
        )
        pairs = [(name, name) for name in ("mid", "other", "leaf", "base")]
        self.told(DECK, DECK, names, 4, (MASTERS, SLIDES + slides), pairs, called.items())

    def test_from_a_deck_to_itself_by_one(self):
        expected = (MASTERS, (ONE, slide_with(ONE, name="one2", links=ONE[5][1:]), TWO, THREE, FOUR))
        pairs = [("mid", "mid"), ("leaf", "leaf"), ("base", "base")]
        self.told(DECK, DECK, ["one"], 1, expected, pairs, [("one", "one2")], [("one2", "body")])

    def test_brought_once_more(self):
        other = ((("m", None, (PLACE,)),), (bare("b", "m"),))
        first = brought_in(HERE, other, ["b"], 2)
        self.assertEqual(first[1:], ([("m", "m2")], [("b", "b2")], []))
        again = brought_in(first[0], other, ["b"], 3)
        self.assertEqual(again[1:], ([("m", "m3")], [("b", "b3")], []))
        self.assertEqual(again[0][0], HERE[0] + (("m2", None, (PLACE,)), ("m3", None, (PLACE,))))
        self.assertEqual([slide[:2] for slide in again[0][1][2:]], [("b2", "m2"), ("b3", "m3")])

    def test_brought_once_more_under_its_own_name(self):
        other = ((("n", "o", (PLACE,)), ("o", None, ())), (bare("x", "n"),))
        first = brought_in(HERE, other, ["x"], 2)
        again = brought_in(first[0], other, ["x"], 2)
        self.assertEqual(again[1:], ([("n", "n"), ("o", "o")], [("x", "x2")], []))
        self.assertEqual(again[0][0], first[0][0])

    def test_twelve_masters_and_forty_slides(self):
        deck = (masters_named(*[f"m{k}" for k in range(11)]), slides_named(*[f"s{k}" for k in range(38)], master="m0"))
        other = (masters_named("n"), slides_named("x", "y", master="n"))
        told = brought_in(deck, other, ["x", "y"], 38)
        self.assertEqual(told[0], (deck[0] + other[0], deck[1] + other[1]))

    def test_told_lists_are_the_askers_own(self):
        other = (masters_named("m"), (bare("x", "m", links=(("p", ("slide", "y")),)), bare("y", "m")))
        names = ["x"]
        told = brought_in(HERE, other, names, 0)
        self.assertIs(type(told), tuple)
        self.assertEqual([type(part) for part in told], [tuple, list, list, list])
        self.assertEqual({type(pair) for part in told[1:] for pair in part}, {tuple})
        expected = [list(part) for part in told[1:]]
        self.assertEqual([len(part) for part in expected], [1, 1, 1])
        for part in told[1:]:
            part.clear()
        self.assertEqual([list(part) for part in brought_in(HERE, other, names, 0)[1:]], expected)
        self.assertEqual(names, ["x"])

    def test_decks_made_by_chance(self):
        for number in range(150):
            deck, chance = some_deck(number)
            other = without_fields(some_deck(number + 1 if number % 3 else number)[0])
            names = [slide[0] for slide in other[1]]
            chosen = chance.sample(names, chance.randint(0, len(names)))
            self.check(deck, other, chosen, chance.randint(0, len(deck[1])))

    def check(self, deck, other, names, at):
        told, masters, slides, links = brought_in(deck, other, names, at)
        self.assertIsNone(fault_of(told))
        self.assertEqual([old for old, _ in slides], names)
        self.assertEqual([slide[0] for slide in told[1][at : at + len(names)]], [new for _, new in slides])
        self.assertEqual(told[1][:at] + told[1][at + len(names) :], deck[1])
        self.assertEqual(told[0][: len(deck[0])], deck[0])
        needed = [name for name in names for name in chain_of(other[0], dict((s[0], s[1]) for s in other[1])[name])]
        self.assertEqual([old for old, _ in masters], [m[0] for m in other[0] if m[0] in needed])
        here, called = dict(masters), dict(slides)
        for old, new in slides:
            self.check_slide(told, other, old, new, here, called, links)

    def check_slide(self, told, other, old, new, here, called, links):
        """Each brought slide has the places, worths, lines but for fields, and steps that it had."""
        (ahead,) = [slide for slide in other[1] if slide[0] == old]
        (behind,) = [slide for slide in told[1] if slide[0] == new]
        self.assertEqual(behind[1], here[ahead[1]])
        self.assertEqual(behind[2:5] + behind[6:], ahead[2:5] + ahead[6:])
        kept = [link for link in ahead[5] if link[1][0] != "slide" or link[1][1] in called]
        left_out = [place for place, _ in ahead[5] if place not in dict(kept)]
        self.assertEqual([place for name, place in links if name == new], left_out)
        self.assertEqual([place for place, _ in behind[5]], [place for place, _ in kept])
        for (_, target), (_, was) in zip(behind[5], kept):
            self.assertEqual(target, ("slide", called[was[1]]) if was[0] == "slide" else was)
        self.assertEqual(places_of(told[0], behind[1]), places_of(other[0], ahead[1]))
        self.assertEqual(chain_of(told[0], behind[1]), [here[name] for name in chain_of(other[0], ahead[1])])
        sources = [
            (place, trait, worth, ("master", here[source[1]]) if source[0] == "master" else source)
            for place, trait, worth, source in sheet_of(other, old)
        ]
        self.assertEqual(sheet_of(told, new), sources)
        for place in places_of(told[0], behind[1]):
            self.assertEqual(lines_at(told, new, place), lines_at(other, old, place))


class RefusalTest(unittest.TestCase):
    FULL = (masters_named(*[f"m{k}" for k in range(12)]), ())
    MANY = (masters_named("m"), slides_named(*[f"s{k}" for k in range(40)]))

    def refused(self, error, deck, other, names, at):
        whole = repr((deck, other))
        self.assertRaises(error, brought_in, deck, other, names, at)
        self.assertEqual(repr((deck, other)), whole)

    def test_no_deck_of_either_and_both(self):
        for thing in NO_DECKS:
            with self.subTest(kind=str(type(thing))):
                for names, at in ((["one"], 0), (None, None), (["one", "one"], -1)):
                    self.assertRaises(NoDeck, brought_in, thing, DECK, names, at)
                    self.assertRaises(NoDeck, brought_in, DECK, thing, names, at)
                    self.assertRaises(NoDeck, brought_in, thing, thing, names, at)

    def test_no_slide_of_what_is_no_list(self):
        for thing in OTHERS + (("one", "two"), "one", {"one": 1}):
            if not isinstance(thing, list):
                with self.subTest(kind=str(type(thing))):
                    self.refused(NoSlide, DECK, DECK, thing, 0)

    def test_no_slide_of_a_name_that_is_none(self):
        for thing in NO_SLIDES:
            with self.subTest(kind=str(type(thing))):
                self.refused(NoSlide, DECK, DECK, [thing], 0)
                self.refused(NoSlide, DECK, DECK, ["one", thing], 0)
                self.refused(NoSlide, DECK, DECK, [thing, "one"], 0)

    def test_no_slide_of_the_other_deck(self):
        self.refused(NoSlide, DECK, HERE, ["one"], 0)
        self.refused(NoSlide, HERE, DECK, ["a"], 0)

    def test_taken(self):
        self.refused(Taken, DECK, DECK, ["one", "one"], 0)
        self.refused(Taken, DECK, DECK, ["one", "two", "three", "two"], 0)

    def test_no_number(self):
        for thing in NO_NUMBERS + (5, 40):
            with self.subTest(kind=str(type(thing))):
                self.refused(NoNumber, DECK, DECK, ["one"], thing)
                self.refused(NoNumber, DECK, DECK, [], thing)
        self.refused(NoNumber, (MASTERS, ()), DECK, ["one"], 1)

    def test_too_many_masters(self):
        other = (masters_named("fresh", "m1"), (bare("a", "fresh"), bare("b", "m1")))
        self.refused(TooMany, self.FULL, other, ["a"], 0)
        self.assertEqual(brought_in(self.FULL, other, ["b"], 0)[0][1], (bare("b", "m1"),))
        eleven = (self.FULL[0][:11], ())
        self.assertEqual(len(brought_in(eleven, other, ["a", "b"], 0)[0][0]), 12)
        two = (masters_named("x", "y"), (bare("a", "x"), bare("b", "y")))
        self.refused(TooMany, eleven, two, ["a", "b"], 0)

    def test_too_many_slides(self):
        other = (masters_named("m"), slides_named("a", "b"))
        self.refused(TooMany, self.MANY, other, ["a"], 0)
        self.refused(TooMany, (self.MANY[0], self.MANY[1][:39]), other, ["a", "b"], 0)
        self.assertEqual(brought_in(self.MANY, other, [], 40), (self.MANY, [], [], []))
        self.assertEqual(len(brought_in((self.MANY[0], self.MANY[1][:39]), other, ["b"], 0)[0][1]), 40)

    def test_several_due(self):
        other = (masters_named("fresh"), slides_named("a", "b", master="fresh"))
        full = (self.FULL[0], slides_named(*[f"s{k}" for k in range(40)], master="m0"))
        self.refused(NoSlide, full, other, ["a", "a", "none"], -1)
        self.refused(NoSlide, full, other, ("a", "a"), -1)
        self.refused(NoSlide, full, other, ["none", "none"], -1)
        self.refused(NoSlide, full, other, ["a", Stranger(), "a"], -1)
        self.refused(Taken, full, other, ["a", "a"], -1)
        self.refused(NoNumber, full, other, ["a", "b"], 41)
        self.refused(TooMany, full, other, ["a", "b"], 40)
