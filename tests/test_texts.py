"""Promise 33: a deck written, and read back."""

import random
import re
import unittest

from mastershow.decks import fault_of
from mastershow.errors import DeckError, NoDeck, NoText
from mastershow.texts import read, text_of
from tests.random_decks import some_deck
from tests.things import DECK, MASTERS, NO_DECKS, STRANGE, bare, slide_with

# Each kind of row stands in it, most of them in each way in which it may.
TEXT = """deck
master m -
place p
set left -1
set top 2
set wide 3
set high 4
set size 5
set ink red
text 2
| first line
| 
place q
text 0
place r
set ink blue
place s
master n m
slide a n 0
hand p left 5
hand q ink x
fill p 1
| filled
fill q 0
step press 0 come p -
step with 5 go q 11
step after 99 dim none 0
link p =b
link q first
link r last
link s return
notes Some notes.
slide b m 1"""
ROWS = TEXT.split("\n")

MASTERS_TOLD = (
    (
        "m",
        None,
        (
            (
                "p",
                (("left", -1), ("top", 2), ("wide", 3), ("high", 4), ("size", 5), ("ink", "red")),
                ("first line", ""),
            ),
            ("q", (), ()),
            ("r", (("ink", "blue"),), None),
            ("s", (), None),
        ),
    ),
    ("n", "m", ()),
)
SLIDES_TOLD = (
    (
        "a",
        "n",
        (("p", "left", 5), ("q", "ink", "x")),
        (("p", ("filled",)), ("q", ())),
        (("press", 0, "come", "p", None), ("with", 5, "go", "q", 11), ("after", 99, "dim", "none", 0)),
        (("p", ("slide", "b")), ("q", ("first",)), ("r", ("last",)), ("s", ("return",))),
        0,
        "Some notes.",
    ),
    bare("b", "m", hidden=1),
)
TOLD = (MASTERS_TOLD, SLIDES_TOLD)

# Every sign that a text may have, in lines of sixty signs at most.
SIGNS = "".join(sign for sign in map(chr, range(32, 127)) if sign not in "%\\")
LONE = (("lone", None, (("p", (), None),)),)

# What each row may be, to the letter: told once more, by other means than the program's.
NAME = "[a-z][a-z0-9]{0,7}"
BELOW = "0|-?[1-9][0-9]{0,2}"
LENGTH = "[1-9][0-9]{0,2}"
WORTH = f"(?:(?:left|top) (?:{BELOW})|(?:wide|high) {LENGTH}|size [1-9][0-9]?|ink {NAME})"
MANY = "(?:[0-9]|1[0-2])"
SIGN = r"[ -$&-\[\]-~]"
ROW = {
    "D": "deck",
    "M": f"master {NAME} (?:{NAME}|-)",
    "P": f"place {NAME}",
    "S": f"set {WORTH}",
    "T": f"text {MANY}",
    "L": rf"\| {SIGN}{{0,60}}",
    "V": f"slide {NAME} {NAME} [01]",
    "H": f"hand {NAME} {WORTH}",
    "F": f"fill {NAME} {MANY}",
    "G": f"step (?:press|with|after) [1-9]?[0-9] (?:come|go|dim) {NAME} (?:-|[0-9]|1[01])",
    "K": f"link {NAME} (?:={NAME}|first|last|return)",
    "N": f"notes {SIGN}{{1,200}}",
}


def lined(head):
    """A row of this letter with all of its rows of lines, or with some of them at the end of all rows."""
    whole = "|".join(head + "x" * many + "L" * many for many in range(13))
    part = "|".join(f"{head}{'x' * many}L{{0,{many}}}" for many in range(13))
    return f"(?:{whole})", f"(?:{part})"


TEXT_WHOLE, TEXT_PART = lined("T")
FILL_WHOLE, FILL_PART = lined("F")
PLACES = f"(?:PS*{TEXT_WHOLE}?)*"
SLIDE = f"VH*{FILL_WHOLE}*G*K*N?"
ORDER = re.compile(
    f"(?:D(?:M{PLACES})*)?"
    f"|D(?:M{PLACES})+PS*{TEXT_PART}"
    f"|D(?:M{PLACES})+(?:{SLIDE})+"
    f"|D(?:M{PLACES})+(?:{SLIDE})*VH*{FILL_WHOLE}*{FILL_PART}"
)


def letters_of(row):
    """The letter of a row, with a mark for each row of a line that is to come; none where it is no row."""
    for letter, pattern in ROW.items():
        if re.fullmatch(pattern, row):
            return letter + ("x" * int(row.split(" ")[-1]) if letter in "TF" else "")
    return None


def first_that_cannot_stand(text):
    order = ""
    for number, row in enumerate(text.split("\n"), start=1):
        letters = letters_of(row)
        if letters is None or not ORDER.fullmatch(order + letters):
            return number
        order += letters
    return None


class TextTest(unittest.TestCase):
    def refused(self, text, row):
        """Refused, and the first row that can't stand is this one."""
        with self.assertRaises(NoText) as told:
            read(text)
        self.assertEqual(told.exception.row, row)

    def refused_rows(self, rows, row):
        self.refused("\n".join(rows), row)


class WrittenTest(TextTest):
    def test_each_row_is_written_and_read(self):
        self.assertIsNone(fault_of(TOLD))
        self.assertEqual(text_of(TOLD), TEXT)
        self.assertEqual(read(TEXT), TOLD)

    def test_the_deck_of_the_tests(self):
        text = text_of(DECK)
        self.assertEqual(read(text), DECK)
        head = ["deck", "master mid base", "place body", "set left 7", "set ink red", "place note", "text 0"]
        self.assertEqual(text.split("\n")[:7], head)
        self.assertEqual(text.split("\n")[-2:], ["slide four mid 0", "hand foot size 2"])
        self.assertIs(type(text), str)

    def test_a_deck_without_places_and_slides(self):
        deck = ((("m", None, ()),), ())
        self.assertEqual(text_of(deck), "deck\nmaster m -")
        self.assertEqual(read("deck\nmaster m -"), deck)

    def test_what_is_read_is_a_deck_of_tuples(self):
        def kinds(thing):
            yield type(thing)
            if isinstance(thing, tuple):
                for part in thing:
                    yield from kinds(part)

        self.assertEqual(set(kinds(read(TEXT))), {tuple, str, int, type(None)})

    def lines(self, *lines):
        """A deck with these lines as a master's text and as a fill."""
        masters = (("lone", None, (("p", (), lines),)),)
        return (masters, (bare("s", "lone", fills=(("p", lines),)),))

    def test_lines_of_each_sign(self):
        self.assertEqual(len(SIGNS), 93)
        for sign in SIGNS:
            deck = self.lines(sign, sign * 2, sign * 60, f"a{sign}b", f" {sign} ")
            with self.subTest(sign):
                self.assertEqual(read(text_of(deck)), deck)
                self.assertEqual(text_of(deck).split("\n")[4], "| " + sign)

    def test_notes_of_each_sign(self):
        for sign in SIGNS:
            for notes in (sign, sign * 200, f"a{sign}b", f" {sign} "):
                deck = (LONE, (bare("s", "lone", notes=notes), bare("t", "lone")))
                with self.subTest(sign):
                    self.assertEqual(read(text_of(deck)), deck)
                    self.assertEqual(text_of(deck).split("\n")[4], "notes " + notes)

    def test_a_line_without_signs_and_lines_of_blanks(self):
        deck = self.lines("", " ", "  ", " " * 60, "")
        self.assertEqual(text_of(deck).split("\n")[4:9], ["| ", "|  ", "|   ", "|" + " " * 61, "| "])
        self.assertEqual(read(text_of(deck)), deck)

    def test_twelve_lines_and_none(self):
        for many in range(13):
            deck = self.lines(*["x"] * many)
            self.assertEqual(read(text_of(deck)), deck)
            self.assertEqual(text_of(deck).split("\n")[3], f"text {many}")

    def test_lines_that_look_like_rows(self):
        rows = [row for row in ROWS if len(row) <= 60]
        for k in range(0, len(rows), 12):
            deck = self.lines(*rows[k : k + 12])
            self.assertEqual(read(text_of(deck)), deck)
        for notes in ("slide b m 1", "| x", "notes", "notes x", "deck"):
            deck = (LONE, (bare("s", "lone", notes=notes),))
            self.assertEqual(read(text_of(deck)), deck)

    def test_slides_and_places_that_are_called_as_words_are(self):
        names = ["first", "last", "return", "slide", "deck", "notes", "text", "press"]
        links = tuple((name, ("slide", name)) for name in sorted(names)) + (("x", ("first",)), ("y", ("return",)))
        masters = (("master", None, tuple((name, (), ()) for name in names)),)
        slides = tuple(bare(name, "master", links=links) for name in names)
        self.assertEqual(read(text_of((masters, slides))), (masters, slides))
        rows = text_of((masters, slides)).split("\n")
        self.assertIn("link first =first", rows)
        self.assertIn("link x first", rows)

    def test_numbers_at_their_bounds(self):
        for trait, low, high in (
            ("left", -999, 999),
            ("top", -999, 999),
            ("wide", 1, 999),
            ("high", 1, 999),
            ("size", 1, 99),
        ):
            for worth in (low, high, 1, 10, 99):
                masters = (("lone", None, (("p", ((trait, worth),), None),)),)
                deck = (masters, (bare("s", "lone", hands=(("p", trait, worth),)),))
                self.assertEqual(text_of(deck).split("\n")[3], f"set {trait} {worth}")
                self.assertEqual(read(text_of(deck)), deck)

    def test_steps_at_their_bounds(self):
        steps = tuple(("press", wait, "come", "p", line) for wait in (0, 9, 10, 99) for line in (None, 0, 9, 10, 11))
        deck = (LONE, (bare("s", "lone", steps=steps),))
        self.assertEqual(read(text_of(deck)), deck)

    def test_as_much_as_there_may_be(self):
        hands = tuple((f"p{k}", trait, 1) for k in range(10) for trait in ("left", "top", "wide", "high", "size"))[:48]
        lines = tuple(f"{k}" + "x" * 50 for k in range(12))
        fills = tuple((f"p{k:02d}", lines) for k in range(12))
        steps = (("after", 9, "dim", "abcdefgh", 11),) * 24
        links = tuple((f"p{k:02d}", ("slide", "s39")) for k in range(12))
        full = (hands, fills, steps, links, 1, "n" * 200)
        masters = tuple((f"m{k}", f"m{k - 1}" if k else None, ()) for k in range(11))
        masters += (("last", None, tuple((f"p{k}", (("ink", "x"),), lines) for k in range(8))),)
        deck = (masters, tuple((f"s{k}", "last") + full for k in range(40)))
        self.assertIsNone(fault_of(deck))
        self.assertEqual(read(text_of(deck)), deck)

    def test_decks_made_by_chance(self):
        for number in range(150):
            deck, _ = some_deck(number)
            text = text_of(deck)
            self.assertEqual(read(text), deck)
            self.assertEqual(text_of(deck), text)
            self.assertIsNone(first_that_cannot_stand(text))

    def test_no_deck(self):
        for thing in NO_DECKS:
            with self.subTest(kind=str(type(thing))):
                self.assertRaises(NoDeck, text_of, thing)


class WordsTest(TextTest):
    """Rows that can't stand by their words."""

    def instead(self, row, *others):
        """Each of the others refused where it stands in the place of the row."""
        at = ROWS.index(row)
        for other in others:
            with self.subTest(other=other[:80]):
                self.refused_rows(ROWS[:at] + [other] + ROWS[at + 1 :], at + 1)

    def test_a_blank_more(self):
        for row in ROWS:
            if row[:2] != "| " and not row.startswith("notes "):
                self.instead(row, " " + row, row + " ", *[row.replace(" ", "  ", 1)] * (" " in row))
        self.instead("| first line", " | first line", "|first line")
        self.instead("notes Some notes.", " notes Some notes.", "notes", "notes ")

    def test_a_word_more_and_a_word_less(self):
        for row in ROWS:
            if row[:2] != "| " and not row.startswith("notes "):
                self.instead(row, row + " x", row + " 0", row.rpartition(" ")[0], row.split(" ")[0] + " ")

    def test_great_letters(self):
        for row in ROWS:
            if row[:2] != "| ":
                self.instead(row, row.upper(), row.capitalize())

    def test_first_words_that_are_none(self):
        for row in ROWS:
            self.instead(row, "", "none", "|", "-", "#", "decks", "under m", "\u00a0" + row, row + "\u00e9")

    def test_names(self):
        bad = ("A", "1a", "abcdefghi", "", "a-b", "-", "=a", "a,b", "\u00e9", "a\t")
        self.instead("master m -", *[f"master {name} -" for name in bad])
        self.instead("master n m", *[f"master n {name}" for name in bad if name != "-"], "master n None", "master n M")
        self.instead("place p", *[f"place {name}" for name in bad])
        self.instead("slide a n 0", *[f"slide {name} n 0" for name in bad], *[f"slide a {name} 0" for name in bad])
        self.instead("hand p left 5", *[f"hand {name} left 5" for name in bad])
        self.instead("fill p 1", *[f"fill {name} 1" for name in bad])
        self.instead("step press 0 come p -", *[f"step press 0 come {name} -" for name in bad])
        self.instead("link p =b", *[f"link {name} =b" for name in bad], *[f"link p ={name}" for name in bad])
        self.instead("set ink red", *[f"set ink {name}" for name in bad], "set ink 5")

    def test_told_words(self):
        self.instead("step press 0 come p -", "step on 0 come p -", "step press 0 came p -", "step come 0 press p -")
        self.instead("link p =b", "link p b", "link p -", "link p slide", "link p First", "link p =", "link p ==b")
        self.instead("set left -1", "set Left -1", "set lef -1", "set - -1", "set colour red", "set left red")
        self.instead("hand p left 5", "hand p none 5", "hand p left", "hand p ink 5", "hand p left x")

    def test_numbers_out_of_their_bounds(self):
        for trait in ("left", "top"):
            self.instead(f"set {trait} {-1 if trait == 'left' else 2}", *[f"set {trait} {n}" for n in (-1000, 1000)])
        for trait, worth in (("wide", 3), ("high", 4)):
            self.instead(f"set {trait} {worth}", *[f"set {trait} {n}" for n in (-1, 0, 1000)])
        self.instead("set size 5", *[f"set size {n}" for n in (-1, 0, 100)])
        self.instead("hand p left 5", "hand p left 1000", "hand p size 0", "hand p wide 0")
        self.instead("text 2", "text 13", "text -1", "text -2")
        self.instead("fill p 1", "fill p 13", "fill p -1")
        self.instead("slide a n 0", "slide a n 2", "slide a n -1", "slide a n -")
        self.instead("step press 0 come p -", *[f"step press {wait} come p -" for wait in ("100", "-1", "-")])
        self.instead("step with 5 go q 11", "step with 5 go q 12", "step with 5 go q -1", "step with 5 go q --")

    def test_numbers_written_otherwise(self):
        plain = ("05", "005", "+5", "5.", "5.0", "0x5", "5_0", " 5", "five", "--5", "-05", "5e0", "")
        for word in plain + ("\u0665", "\u00b2"):
            self.instead("set top 2", f"set top {word}")
            self.instead("hand p left 5", f"hand p left {word}")
        for word in ("-0", "00", "-00", "-"):
            self.instead("set top 2", f"set top {word}")
            self.instead("step press 0 come p -", f"step press {word} come p -")
            self.instead("slide a n 0", f"slide a n {word}")
            self.instead("fill q 0", f"fill q {word}")
            self.instead("step after 99 dim none 0", *[f"step after 99 dim none {word}"] * (word != "-"))

    def test_numbers_of_many_figures(self):
        for figures in ("1" * 10, "9" * 60, "1" * 4400, "0" * 4400, "-" + "1" * 4400, "0" * 4400 + "1"):
            self.instead("set left -1", f"set left {figures}")
            self.instead("hand p left 5", f"hand p left {figures}")
            self.instead("text 2", f"text {figures}")
            self.instead("fill p 1", f"fill p {figures}")
            self.instead("slide a n 0", f"slide a n {figures}")
            self.instead("step press 0 come p -", f"step press {figures} come p -")
            self.instead("step with 5 go q 11", f"step with 5 go q {figures}")

    def test_signs_of_lines_and_of_notes(self):
        for bad in ("100%", "a\\b", "a\tb", "\r", "caf\u00e9", "\u2028", "\x7f", "\x00"):
            self.instead("| first line", f"| {bad}")
            self.instead("| filled", f"| {bad}")
            self.instead("notes Some notes.", f"notes {bad}")
        self.instead("| first line", "| " + "x" * 61, "| " + " " * 61)
        self.instead("notes Some notes.", "notes " + "x" * 201, "notes " + " " * 201)

    def test_line_feeds_of_other_kinds(self):
        for feed in ("\r\n", "\r", "\x0b", "\x0c", "\u2028", "\x85"):
            self.refused(feed.join(ROWS), 1)


class OrderTest(TextTest):
    """Rows that can't stand where they stand."""

    def test_each_row_left_out(self):
        for k, row in enumerate(ROWS):
            rows = ROWS[:k] + ROWS[k + 1 :]
            with self.subTest(row):
                self.check("\n".join(rows))

    def test_each_row_told_twice(self):
        for k, row in enumerate(ROWS):
            with self.subTest(row):
                self.check("\n".join(ROWS[: k + 1] + [row] + ROWS[k + 1 :]))

    def test_each_row_in_another_place(self):
        for k in range(len(ROWS)):
            others = ROWS[:k] + ROWS[k + 1 :]
            for at in range(len(ROWS)):
                self.check("\n".join(others[:at] + [ROWS[k]] + others[at:]))

    def test_each_kind_of_row_behind_each(self):
        kinds = {row.split(" ")[0]: row for row in ROWS}
        for k in range(len(ROWS) + 1):
            for row in kinds.values():
                self.check("\n".join(ROWS[:k] + [row]))

    def check(self, text):
        """Refused by the row that other means tell, or read as the deck that it writes."""
        row = first_that_cannot_stand(text)
        try:
            told = read(text)
        except NoText as refusal:
            self.assertEqual(refusal.row, row, text)
        else:
            self.assertIsNone(row, text)
            self.assertEqual(text_of(told), text)

    def test_rows_told_by_hand(self):
        self.refused_rows(["master m -"], 1)
        self.refused_rows(["deck", "deck"], 2)
        self.refused_rows(["deck", "slide a m 0"], 2)
        self.refused_rows(["deck", "place p"], 2)
        self.refused_rows(["deck", "| x"], 2)
        self.refused_rows(["deck", "master m -", "deck"], 3)
        self.refused_rows(["deck", "master m -", "set left 1"], 3)
        self.refused_rows(["deck", "master m -", "text 0"], 3)
        self.refused_rows(["deck", "master m -", "hand p left 1"], 3)
        self.refused_rows(["deck", "master m -", "notes x"], 3)
        head = ["deck", "master m -", "place p", "text 0"]
        self.refused_rows(head + ["set left 1"], 5)
        self.refused_rows(head + ["text 0"], 5)
        slide = head + ["slide a m 0"]
        self.refused_rows(slide + ["master n -"], 6)
        self.refused_rows(slide + ["place p"], 6)
        self.refused_rows(slide + ["set left 1"], 6)
        self.refused_rows(slide + ["text 0"], 6)
        self.refused_rows(slide + ["fill p 0", "hand p left 1"], 7)
        self.refused_rows(slide + ["step with 0 go p -", "fill p 0"], 7)
        self.refused_rows(slide + ["link p first", "step with 0 go p -"], 7)
        self.refused_rows(slide + ["notes x", "link p first"], 7)
        self.refused_rows(slide + ["notes x", "notes x"], 7)

    def test_rows_of_lines_too_few_and_too_many(self):
        head = ["deck", "master m -", "place p"]
        self.refused_rows(head + ["text 2", "| x", "place q"], 6)
        self.refused_rows(head + ["text 2", "place q"], 5)
        self.refused_rows(head + ["text 1", "| x", "| y"], 6)
        self.refused_rows(head + ["text 0", "| x"], 5)
        self.refused_rows(head + ["| x"], 4)
        slide = head + ["slide a m 0"]
        self.refused_rows(slide + ["fill p 2", "| x", "slide b m 0"], 7)
        self.refused_rows(slide + ["fill p 1", "| x", "| y"], 7)
        self.refused_rows(slide + ["fill p 0", "| y"], 6)
        self.refused_rows(slide + ["| y"], 5)
        self.refused_rows(slide + ["notes x", "| y"], 6)

    def test_a_line_feed_more(self):
        self.refused(TEXT + "\n", len(ROWS) + 1)
        self.refused("\n" + TEXT, 1)
        self.refused(TEXT.replace("\n", "\n\n", 1), 2)
        self.refused("deck\n", 2)
        self.refused("\n", 1)

    def test_an_empty_text(self):
        self.refused("", 1)
        self.refused(" ", 1)

    def test_the_first_of_several(self):
        self.refused_rows(["deck", "master m -", "none", "none"], 3)
        self.refused_rows(["deck", "master m -", "place p", "text 3", "| x", "none", "none"], 6)
        self.refused_rows(["deck", "master m none", "master m none", "slide a b 2"], 4)

    def test_what_is_no_text(self):
        for thing in STRANGE + (None, 0, 1, (), [], b"deck", TEXT.encode(), ROWS, DECK):
            if not isinstance(thing, str):
                with self.subTest(kind=str(type(thing))):
                    self.refused(thing, 1)

    def test_texts_changed_by_chance(self):
        chance = random.Random(33)
        pool = ROWS + ["text 1", "fill p 2", "set left 05", "| ", "|", "", "notes "]
        pool += ["master m m", "slide a m 1", "place "]
        for number in range(400):
            rows = list(ROWS) if number % 2 else text_of(some_deck(number)[0]).split("\n")
            for _ in range(chance.randint(1, 3)):
                k = chance.randrange(len(rows))
                change = chance.randrange(5)
                if change == 0 and len(rows) > 1:
                    del rows[k]
                elif change == 1:
                    rows.insert(k, chance.choice(pool))
                elif change == 2:
                    rows[k] = chance.choice(pool)
                elif change == 3:
                    other = chance.randrange(len(rows))
                    rows[k], rows[other] = rows[other], rows[k]
                elif rows[k]:
                    at = chance.randrange(len(rows[k]))
                    rows[k] = rows[k][:at] + chance.choice("a0 -|=\n") + rows[k][at + 1 :]
            self.check("\n".join(rows))


class NoneTest(TextTest):
    """Each row can stand, and yet there is no deck."""

    HEAD = ["deck", "master m -", "place p"]

    def no_deck(self, *rows):
        self.assertIsNone(first_that_cannot_stand("\n".join(rows)))
        self.refused_rows(rows, None)

    def test_no_master(self):
        self.no_deck("deck")

    def test_names_alike(self):
        self.no_deck("deck", "master m -", "master m -")
        self.no_deck("deck", "master m -", "master n -", "master m n")
        self.no_deck(*self.HEAD, "place p")
        self.no_deck(*self.HEAD, "place q", "place p")
        self.no_deck(*self.HEAD, "slide a m 0", "slide a m 1")

    def test_things_told_twice(self):
        self.no_deck(*self.HEAD, "set left 1", "set left 1")
        self.no_deck(*self.HEAD, "slide a m 0", "hand p left 1", "hand p left 2")
        self.no_deck(*self.HEAD, "slide a m 0", "fill p 0", "fill p 0")
        self.no_deck(*self.HEAD, "slide a m 0", "link p first", "link p last")

    def test_another_order(self):
        self.no_deck(*self.HEAD, "set top 1", "set left 1")
        self.no_deck(*self.HEAD, "set ink x", "set size 1")
        self.no_deck(*self.HEAD, "slide a m 0", "hand p top 1", "hand p left 1")
        self.no_deck(*self.HEAD, "slide a m 0", "hand q left 1", "hand p top 1")
        self.no_deck(*self.HEAD, "slide a m 0", "fill q 0", "fill p 0")
        self.no_deck(*self.HEAD, "slide a m 0", "link q first", "link p first")

    def test_one_too_many(self):
        self.no_deck("deck", *[f"master m{k} -" for k in range(13)])
        self.no_deck("deck", "master m -", *[f"place p{k}" for k in range(9)])
        self.no_deck(*self.HEAD, *[f"slide s{k} m 0" for k in range(41)])
        traits = ("left", "top", "wide", "high", "size")
        hands = [f"hand p{k:02d} {trait} 1" for k in range(10) for trait in traits]
        self.no_deck(*self.HEAD, "slide a m 0", *hands[:49])
        self.no_deck(*self.HEAD, "slide a m 0", *[f"fill p{k:02d} 0" for k in range(13)])
        self.no_deck(*self.HEAD, "slide a m 0", *["step with 0 go p -"] * 25)
        self.no_deck(*self.HEAD, "slide a m 0", *[f"link p{k:02d} first" for k in range(13)])

    def test_just_as_many(self):
        read("\n".join(["deck"] + [f"master m{k} -" for k in range(12)]))
        read("\n".join(["deck", "master m -"] + [f"place p{k}" for k in range(8)]))
        read("\n".join(self.HEAD + [f"slide s{k} m 0" for k in range(40)]))
        read("\n".join(self.HEAD + ["slide a m 0"] + ["step with 0 go p -"] * 24))

    def test_overs_that_lead_nowhere_or_round(self):
        self.no_deck("deck", "master m none")
        self.no_deck("deck", "master m m")
        self.no_deck("deck", "master m n", "master n m")
        self.no_deck("deck", "master m n", "master n o", "master o n")

    def test_slides_under_no_master(self):
        self.no_deck(*self.HEAD, "slide a none 0")

    def test_links_that_lead_nowhere(self):
        self.no_deck(*self.HEAD, "slide a m 0", "link p =none")
        self.no_deck(*self.HEAD, "slide a m 0", "link p =m")
        self.no_deck(*self.HEAD, "slide a m 0", "link p =first")

    def test_rows_of_lines_that_lack_at_the_end(self):
        self.no_deck(*self.HEAD, "text 1")
        self.no_deck(*self.HEAD, "text 2", "| x")
        self.no_deck(*self.HEAD, "text 12", *["| "] * 11)
        self.no_deck(*self.HEAD, "slide a m 0", "fill p 1")
        self.no_deck(*self.HEAD, "slide a m 0", "fill p 3", "| x", "| ")

    def test_a_row_that_can_not_stand_goes_ahead(self):
        self.refused_rows(["deck", "master m none", "master m none", "none"], 4)
        self.refused_rows(self.HEAD + ["place p", "set left 1000"], 5)

    def test_each_is_told_as_a_deck_error(self):
        self.assertRaises(DeckError, read, "deck")
        self.assertRaises(DeckError, read, None)


class SameTest(TextTest):
    def test_asked_twice_and_behind_others(self):
        first = text_of(DECK), read(TEXT)
        text_of(TOLD)
        read(text_of((MASTERS, ())))
        self.refused("deck", None)
        self.assertEqual((text_of(DECK), read(TEXT)), first)

    def test_the_deck_handed_in_as_it_was(self):
        deck = (MASTERS, (slide_with(DECK[1][0], links=()),))
        whole = repr(deck)
        text_of(deck)
        self.assertEqual(repr(deck), whole)
