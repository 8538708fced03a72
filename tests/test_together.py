"""The whole: texts, desks, deeds, shows and slides from other decks, one with another."""

import unittest

from mastershow.bringing import brought_in
from mastershow.decks import fault_of
from mastershow.deeds import done_deed
from mastershow.desk import Desk
from mastershow.errors import DeckError
from mastershow.keepers import Keeper
from mastershow.numbers import outline_of
from mastershow.pictures import picture_of
from mastershow.shows import Show
from mastershow.steps import groups_of
from mastershow.texts import read, text_of
from mastershow.touches import touched_by
from mastershow.worths import strays_of, worth_at
from tests.random_decks import TRAITS, some_deck
from tests.random_deeds import some_deed
from tests.things import DECK, MASTERS

TEXT = """deck
master base -
place title
set size 2
text 1
| {n} of {all}
place body
master loud base
place title
set ink red
slide start base 0
fill body 2
| one
| two
step with 0 come body 0
step press 0 come body 1
step after 5 go body 0
link title =last
notes Say hello.
slide aside loud 1
slide last loud 0
hand body left 4
link body return"""

# The same deck, as rows of a desk, and as deeds to a new desk's deck.
ROWS = (
    "master base -",
    "place base title",
    "set base title size 2",
    "place base body",
    "master loud base",
    "set loud title ink red",
    "add 0 start base",
    "drop plain",
    "add 1 last loud",
    "line start body one",
    "line start body two",
    "step start with 0 come body 0",
    "step start press 0 come body 1",
    "step start after 5 go body 0",
    "link start title =last",
    "add 1 aside loud",
    "hide aside 1",
    "hand last body left 4",
    "link last body return",
)
STEPS = (("with", 0, "come", "body", 0), ("press", 0, "come", "body", 1), ("after", 5, "go", "body", 0))
DEEDS = (
    ("text", "plain", "title", ("{n} of {all}",)),
    ("set", "plain", "title", "size", 2),
    ("place", "plain", "body"),
    ("rename", "plain", "base"),
    ("master", ("loud", None, ())),
    ("over", "loud", "base"),
    ("set", "loud", "title", "ink", "red"),
    ("add", 0, ("end", "loud", (), (), (), (("body", ("return",)),), 0, "")),
    ("add", 0, ("start", "loud", (), (("body", ("one", "two")),), (), (("title", ("slide", "end")),), 0, "")),
    ("add", 0, ("aside", "loud", (), (), (), (), 0, "")),
    ("under", "start", "base"),
    ("steps", "start", STEPS),
    ("note", "start", "Say hello."),
    ("call", "end", "last"),
    ("hand", "last", "body", "left", 4),
    ("hide", "aside", 1),
    ("go", "aside", 1),
)
FIRST = ((("plain", None, (("title", (), None),)),), ())


def some_text(thing):
    """A thing as a text that tells apart what is unlike."""
    return repr(thing)


class SameDeckTest(unittest.TestCase):
    def test_by_its_text(self):
        deck = read(TEXT)
        self.assertIsNone(fault_of(deck))
        self.assertEqual(text_of(deck), TEXT)

    def test_by_deeds(self):
        deck = FIRST
        keeper = Keeper(FIRST)
        for deed in DEEDS:
            deck = done_deed(deck, deed)
            keeper.do(deed)
        self.assertEqual(deck, read(TEXT))
        self.assertEqual(keeper.deck(), deck)

    def test_by_rows_of_a_desk(self):
        """A desk has no rows for a master's text and for notes, so these two are done as deeds."""
        desk = Desk()
        for row in ROWS:
            desk.say(row)
        deck = done_deed(read(desk.say("text")), ("text", "base", "title", ("{n} of {all}",)))
        self.assertEqual(done_deed(deck, ("note", "start", "Say hello.")), read(TEXT))

    def test_by_slides_from_another_deck(self):
        deck = read(TEXT)
        empty = (deck[0], ())
        told, masters, slides, links = brought_in(empty, deck, ["start", "aside", "last"], 0)
        self.assertEqual((told, masters, links), (deck, [("base", "base"), ("loud", "loud")], []))
        self.assertEqual(slides, [("start", "start"), ("aside", "aside"), ("last", "last")])
        last = brought_in(empty, deck, ["last"], 0)[0]
        self.assertEqual(brought_in(last, deck, ["aside"], 0)[0][1], deck[1][1:])


class ShownTest(unittest.TestCase):
    def test_a_text_read_and_shown_from_the_first_slide_to_the_last_and_back(self):
        show = Show(read(TEXT), None)
        way = [("start", 0), ("start", 1), ("last", 0)]
        pictures = [
            [("title", 0, "1 of 2", "here"), ("body", 0, "one", "here"), ("body", 1, "two", "out")],
            [("title", 0, "1 of 2", "here"), ("body", 0, "one", "out"), ("body", 1, "two", "here")],
            [("title", 0, "2 of 2", "here")],
        ]
        for k in range(3):
            self.assertEqual((show.where(), show.picture_now(None)), (way[k], pictures[k]))
            self.assertIs(show.on(), k < 2)
        for k in (2, 1, 0):
            self.assertEqual((show.where(), show.picture_now(None)), (way[k], pictures[k]))
            self.assertIs(show.back(), k > 0)

    def test_by_jumps(self):
        show = Show(read(TEXT), None)
        show.press("title")
        self.assertEqual(show.picture_now(0), [("title", 0, "2 of 2", "here")])
        show.jump("aside")
        self.assertEqual(show.picture_now(0), [("title", 0, "- of 2", "here")])
        self.assertIs(show.back(), True)
        self.assertIs(show.press("body"), True)
        self.assertEqual((show.where(), show.trail()), (("start", 0), []))
        show.on()
        self.assertEqual(show.picture_now(4)[1], ("body", 0, "one", "here"))
        self.assertEqual(show.picture_now(5)[1], ("body", 0, "one", "out"))

    def test_texts_made_by_chance(self):
        for number in range(60):
            deck, _ = some_deck(number)
            shown = read(text_of(deck))
            names = [slide[0] for slide in deck[1]]
            show = Show(shown, names)
            way = [(slide[0], presses) for slide in deck[1] for presses in range(len(groups_of(slide[4])))]
            for place in way:
                self.check_at(show, deck, place)
                self.assertIs(show.on(), place != way[-1])
            for place in way[::-1]:
                self.check_at(show, deck, place)
                self.assertIs(show.back(), place != way[0])

    def check_at(self, show, deck, place):
        self.assertEqual(show.where(), place)
        for time in (0, 2, None):
            self.assertEqual(show.picture_now(time), picture_of(deck, *place, time))


class DeskTest(unittest.TestCase):
    """What a desk answers is what the stages tell of its deck."""

    def test_desks_made_by_chance(self):
        for number in range(25):
            deck, chance = some_deck(number)
            desk, keeper = Desk(), Keeper(((("plain", None, ()),), ()))
            for row, deed in self.rows(chance):
                try:
                    told = keeper.do(deed)
                except DeckError as refusal:
                    with self.assertRaises(type(refusal)):
                        desk.say(row)
                else:
                    self.assertEqual(desk.say(row), "; ".join(" ".join(key) for key in told) or "-")
                self.check(desk, keeper.deck())

    def rows(self, chance):
        """Rows of a desk, and the deeds that they do."""
        names = ("a", "b", "c")
        masters = ("plain", "m", "n")
        for _ in range(60):
            name, other, master = chance.choice(names), chance.choice(names), chance.choice(masters)
            place, trait, worth = chance.choice("pq"), chance.choice(TRAITS[:5]), chance.randint(0, 9)
            yield chance.choice(
                (
                    (f"master {master} plain", ("master", (master, "plain", ()))),
                    (f"place {master} {place}", ("place", master, place)),
                    (f"unplace {master} {place}", ("unplace", master, place)),
                    (f"set {master} {place} {trait} {worth}", ("set", master, place, trait, worth)),
                    (f"add 0 {name} {master}", ("add", 0, (name, master, (), (), (), (), 0, ""))),
                    (f"hand {name} {place} {trait} {worth}", ("hand", name, place, trait, worth)),
                    (f"free {name} {place} {trait}", ("free", name, place, trait)),
                    (f"under {name} {master}", ("under", name, master)),
                    (f"go {name} {worth}", ("go", name, worth)),
                    (f"call {name} {other}", ("call", name, other)),
                    (f"hide {name} {worth // 4}", ("hide", name, worth // 4)),
                    (f"take {name}", ("take", name)),
                )
            )

    def check(self, desk, deck):
        self.assertEqual(desk.say("text"), text_of(deck))
        outline = [f"{number} {slide} {title}" for slide, number, title in outline_of(deck, "p")]
        self.assertEqual(desk.say("outline p"), "; ".join(outline) or "-")
        for slide in deck[1]:
            self.assertEqual(desk.say(f"strays {slide[0]}"), "; ".join(strays_of(deck, slide[0])) or "-")
            try:
                worth, source = worth_at(deck, slide[0], "p", "left")
            except DeckError as refusal:
                with self.assertRaises(type(refusal)):
                    desk.say(f"worth {slide[0]} p left")
            else:
                self.assertEqual(desk.say(f"worth {slide[0]} p left"), " ".join([str(worth), *source]))


class SameTest(unittest.TestCase):
    """Asked twice, and behind other decks."""

    def ask(self, deck, deed):
        keeper = Keeper(deck)
        try:
            told = [keeper.do(deed), keeper.undo(), keeper.again(), keeper.deck()]
        except DeckError as refusal:
            told = [type(refusal).__name__]
        names = [slide[0] for slide in deck[1]]
        return some_text(
            [
                told,
                text_of(deck),
                read(text_of(deck)),
                brought_in(deck, DECK, ["four", "one"], len(names)),
                brought_in(DECK, deck, names, 2),
            ]
        )

    def test_asked_twice_and_behind_other_decks(self):
        first = {}
        for again in range(2):
            for number in range(40):
                deck, chance = some_deck(number)
                told = self.ask(deck, some_deed(chance, deck))
                self.assertEqual(first.setdefault(number, told), told)

    def test_nothing_that_is_handed_in_is_changed(self):
        for number in range(40):
            deck, chance = some_deck(number)
            whole = some_text(deck)
            self.ask(deck, some_deed(chance, deck))
            self.assertEqual(some_text(deck), whole)

    def test_told_lists_changed(self):
        names = ["one"]
        told = brought_in((MASTERS, ()), DECK, names, 0)
        for rows in told[1:]:
            rows.append(("x", "y"))
        names.append("two")
        again = brought_in((MASTERS, ()), DECK, ["one"], 0)
        self.assertEqual([len(rows) for rows in again[1:]], [3, 1, 1])


class UndoneTest(unittest.TestCase):
    def test_a_deed_taken_back_touches_the_same(self):
        """What is undone is as it was, and each worth that changed changes back."""
        for number in range(60):
            deck, chance = some_deck(number)
            keeper = Keeper(deck)
            try:
                told = keeper.do(some_deed(chance, deck))
            except DeckError:
                continue
            self.assertEqual(sorted(keeper.undo()), sorted(told))
            self.assertEqual(keeper.deck(), deck)
            self.assertEqual(touched_by(deck, keeper.deck()), [])
