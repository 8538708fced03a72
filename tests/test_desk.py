"""Promise 34: a desk, which keeps a deck and at most one show, and is told rows."""

import unittest

from mastershow.desk import Desk
from mastershow.errors import (
    DeckError,
    NoDeed,
    NoLink,
    NoMaster,
    NoNumber,
    NoPlace,
    NoRow,
    NoSetting,
    NoShow,
    NoSlide,
    NoWorth,
    Ring,
    Taken,
    TooMany,
    Used,
)
from mastershow.texts import read
from tests.things import STRANGE

# Rows that make the deck of the tests at a new desk.
MADE = (
    "place plain title",
    "place plain body",
    "set plain title size 3",
    "set plain body ink ash",
    "master leaf plain",
    "place leaf side",
    "add 0 a leaf",
    "add 1 b plain",
    "add 2 c leaf",
    "hide c 1",
    "line a title Title of {name}",
    "line a body one",
    "line a body two",
    "hand a body left 5",
    "step a press 0 come body 0",
    "step a press 5 go body -",
    "link a title =b",
    "link b title return",
)
TEXT = """deck
master plain -
place title
set size 3
place body
set ink ash
master leaf plain
place side
slide a leaf 0
hand body left 5
fill body 2
| one
| two
fill title 1
| Title of {name}
step press 0 come body 0
step press 5 go body -
link title =b
slide b plain 0
link title return
slide c leaf 1"""
NEW = "deck\nmaster plain -"

# A row of each kind, which the desk of the tests does not refuse where a show is begun.
ROWS = (
    "master fresh plain",
    "drop spare",
    "set leaf side size 5",
    "unset plain title size",
    "place leaf fresh",
    "unplace leaf side",
    "over leaf -",
    "add 1 fresh leaf",
    "take c",
    "go a 2",
    "call a fresh",
    "rename leaf fresh",
    "hide a 1",
    "hand a title top -5",
    "free a body left",
    "under b leaf",
    "line a body three",
    "empty a body",
    "step a with 1 dim title 0",
    "link a body first",
    "unlink a title",
    "undo",
    "again",
    "worth a body left",
    "strays a",
    "outline title",
    "text",
    "show",
    "on",
    "back",
    "jump b",
    "return",
    "press title",
    "picture",
)
DEED_ROWS = ROWS[:21]
QUESTIONS = ("worth a body left", "strays a", "outline title", "text")
SHOW_ROWS = ("on", "back", "jump b", "return", "press title", "picture")

TRAITS = ("left", "top", "wide", "high", "size", "ink")


def all_of(slide, place):
    return [f"{slide} {place} {trait}" for trait in TRAITS]


def told_desk(*rows):
    desk = Desk()
    for row in rows:
        desk.say(row)
    return desk


def made_desk(*rows):
    """A desk with the deck of the tests, and behind these rows."""
    return told_desk(*MADE, *rows)


class DeskTest(unittest.TestCase):
    def told(self, desk, row, expected):
        self.assertEqual(desk.say(row), expected)

    def refused(self, error, desk, *rows):
        """Each row refused, and nothing changed by it."""
        text = desk.say("text")
        for row in rows:
            with self.subTest(row=str(row)[:80]):
                self.assertRaises(error, desk.say, row)
                self.assertEqual(desk.say("text"), text)

    def changed(self, row, answer, old, fresh, *ahead):
        """The rows fresh stand in the deck's text, in the place of the rows old, behind a row."""
        desk = made_desk(*ahead)
        text = desk.say("text")
        self.assertEqual(text.count(old), 1)
        self.told(desk, row, answer)
        self.told(desk, "text", text.replace(old, fresh))


class NewTest(DeskTest):
    def test_its_text(self):
        self.told(Desk(), "text", NEW)

    def test_it_has_no_show_and_nothing_to_take_back(self):
        desk = Desk()
        self.refused(NoShow, desk, *SHOW_ROWS)
        self.refused(NoShow, desk, "show")
        self.refused(NoDeed, desk, "undo", "again")

    def test_the_desk_of_the_tests(self):
        self.told(made_desk(), "text", TEXT)


class DeedTest(DeskTest):
    """Rows that do a deed."""

    def test_master(self):
        self.changed("master x plain", "-", "slide a", "master x plain\nslide a")
        self.changed("master x -", "-", "slide a", "master x -\nslide a")

    def test_drop(self):
        self.changed("drop x", "-", "master x plain\n", "", "master x plain")

    def test_set(self):
        self.changed("set plain title size 9", "a title size; b title size; c title size", "size 3", "size 9")
        self.changed("set plain body left -7", "b body left; c body left", "set ink ash", "set left -7\nset ink ash")
        self.changed("set leaf side ink red", "a side ink; c side ink", "place side", "place side\nset ink red")
        self.changed("set plain title size 3", "-", "size 3", "size 3")
        self.changed(
            "set leaf title size 4", "a title size; c title size", "place side", "place side\nplace title\nset size 4"
        )

    def test_unset(self):
        self.changed("unset plain title size", "a title size; b title size; c title size", "set size 3\n", "")

    def test_place(self):
        answer = "; ".join(all_of("a", "x") + all_of("c", "x"))
        self.changed("place leaf x", answer, "place side", "place side\nplace x")

    def test_unplace(self):
        answer = "; ".join(all_of("a", "side") + all_of("c", "side"))
        self.changed("unplace leaf side", answer, "place side\n", "")

    def test_over(self):
        places = [all_of(slide, place) for slide in ("a", "c") for place in ("title", "body")]
        answer = "; ".join(row for rows in places for row in rows)
        self.changed("over leaf -", answer, "master leaf plain", "master leaf -")
        self.changed("over plain x", "-", "master plain -", "master plain x", "master x -")

    def test_add(self):
        for at, ahead in enumerate(("slide a", "slide b", "slide c")):
            self.changed(f"add {at} x plain", "-", ahead, f"slide x plain 0\n{ahead}")
        self.changed("add 3 x leaf", "-", "slide c leaf 1", "slide c leaf 1\nslide x leaf 0")

    def test_take(self):
        self.changed("take c", "-", "\nslide c leaf 1", "")
        self.changed("take a", "-", TEXT[TEXT.index("slide a") : TEXT.index("slide b")], "")

    def test_go(self):
        last = "slide b plain 0\nlink title return"
        self.changed("go c 1", "-", f"{last}\nslide c leaf 1", f"slide c leaf 1\n{last}")
        self.changed("go b 1", "-", "slide b", "slide b")

    def test_call(self):
        self.changed("call c x", "-", "slide c", "slide x")
        self.changed("call b x", "-", "link title =b\nslide b", "link title =x\nslide x")

    def test_rename(self):
        desk = made_desk()
        self.told(desk, "rename plain x", "-")
        self.told(desk, "text", TEXT.replace("plain", "x"))

    def test_hide(self):
        self.changed("hide a 1", "-", "slide a leaf 0", "slide a leaf 1")
        self.changed("hide c 0", "-", "slide c leaf 1", "slide c leaf 0")

    def test_hand(self):
        self.changed("hand a title top -5", "a title top", "fill body", "hand title top -5\nfill body")
        self.changed("hand a body left 6", "a body left", "hand body left 5", "hand body left 6")
        self.changed("hand b title ink x1", "b title ink", "plain 0", "plain 0\nhand title ink x1")

    def test_free(self):
        self.changed("free a body left", "a body left", "hand body left 5\n", "")

    def test_under(self):
        self.changed("under b leaf", "; ".join(all_of("b", "side")), "slide b plain", "slide b leaf")
        self.changed("under b plain", "-", "slide b plain", "slide b plain")

    def test_line(self):
        self.changed("line a body three", "-", "fill body 2\n| one\n| two", "fill body 3\n| one\n| two\n| three")
        self.changed("line b body x", "-", "plain 0", "plain 0\nfill body 1\n| x")
        self.changed("line a side x", "-", "fill title", "fill side 1\n| x\nfill title")

    def test_lines_with_blanks_and_without_signs(self):
        old, fresh = "fill body 2\n| one\n| two", "fill body 3\n| one\n| two\n| "
        odd = ("line a body x", "| x", "- ; -", "~{n}")
        for line in ("", " ", "  x", "x  ", "  two  words  ", " " * 60, "x" * 60) + odd:
            self.changed(f"line a body {line}", "-", old, fresh + line)
            self.changed(f"line b body {line}", "-", "plain 0", f"plain 0\nfill body 1\n| {line}")

    def test_twelve_lines(self):
        desk = made_desk(*[f"line b body {k}" for k in range(12)])
        self.refused(NoWorth, desk, "line b body x", "line b body ")

    def test_empty(self):
        self.changed("empty a body", "-", "fill body 2\n| one\n| two\n", "")
        self.changed("empty a side", "-", "fill side 1\n| \n", "", "line a side ")

    def test_a_line_behind_empty(self):
        self.changed("line a body x", "-", "fill title", "fill body 1\n| x\nfill title", "empty a body")

    def test_step(self):
        for step in ("with 1 dim title 0", "press 99 go none 11", "after 0 come body -"):
            self.changed(f"step a {step}", "-", "step press 5 go body -", f"step press 5 go body -\nstep {step}")
        self.changed("step b with 0 come x 0", "-", "plain 0", "plain 0\nstep with 0 come x 0")

    def test_link(self):
        for target in ("first", "last", "return", "=a", "=c"):
            self.changed(f"link a title {target}", "-", "link title =b", f"link title {target}")
            self.changed(f"link a body {target}", "-", "link title =b", f"link body {target}\nlink title =b")
            self.changed(f"link a z {target}", "-", "link title =b", f"link title =b\nlink z {target}")

    def test_unlink(self):
        self.changed("unlink a title", "-", "link title =b\n", "")
        self.changed("unlink a z", "-", "link z last\n", "", "link a z last")


class RefusedDeedTest(DeskTest):
    """What the stages refuse."""

    def test_at_masters(self):
        desk = made_desk("master x leaf")
        self.refused(NoMaster, desk, "drop none", "set none title size 1", "unset none title size", "place none y")
        self.refused(NoMaster, desk, "unplace none title", "over none -", "over leaf none", "rename none y")
        self.refused(NoMaster, desk, "master y none", "master y y", "add 0 y none", "under a none")
        self.refused(Taken, desk, "master leaf -", "master leaf none", "rename leaf plain", "place leaf title")
        self.refused(Used, desk, "drop plain", "drop leaf")
        self.refused(NoPlace, desk, "set leaf none size 1", "unset leaf title size", "unplace leaf title")
        self.refused(NoSetting, desk, "unset plain title ink", "unset leaf side size")
        self.refused(Ring, desk, "over plain plain", "over plain leaf", "over plain x")
        self.refused(Used, Desk(), "drop plain")

    def test_at_slides(self):
        desk = made_desk()
        self.refused(NoSlide, desk, "take none", "go none 0", "call none y", "hide none 1", "hand none title size 1")
        self.refused(NoSlide, desk, "free none title size", "under none leaf", "line none title x", "empty none title")
        self.refused(NoSlide, desk, "step none with 0 go title -", "link none title first", "unlink none title")
        self.refused(Taken, desk, "add 0 a leaf", "call a b")
        self.refused(Used, desk, "take b")
        self.refused(NoNumber, desk, "add 4 x leaf", "add -1 x leaf", "go a 3", "go a -1")
        self.refused(NoPlace, desk, "hand a none size 1", "hand b side size 1", "line a none x", "line b side x")
        self.refused(NoSetting, desk, "free a body top", "free a none left", "empty b body", "empty a none")
        self.refused(NoLink, desk, "link a title =none", "link a z =plain")
        self.refused(NoLink, desk, "unlink a body", "unlink a none", "unlink c title")

    def test_worths_out_of_bounds(self):
        desk = made_desk()
        self.refused(NoWorth, desk, "set leaf side left 1000", "set leaf side size 0", "set leaf side wide -5")
        self.refused(NoWorth, desk, "hand a side top -1000", "hand a side size 100", "hand a side high 0")
        self.refused(NoWorth, desk, "hide a 2", "hide a -1", "hide a 999999999")
        self.refused(NoWorth, desk, "step a with 100 go title -", "step a with -1 go title -")
        self.refused(NoWorth, desk, "step a with 0 go title 12", "step a with 0 go title -1")

    def test_one_too_many(self):
        desk = made_desk(*[f"link a p{k} first" for k in range(11)])
        self.refused(NoWorth, desk, "link a x first", "link a x =none")
        desk.say("link a title last")
        desk = made_desk(*["step b with 0 go title -"] * 24)
        self.refused(NoWorth, desk, "step b with 0 go title -")
        desk = made_desk(*[f"place leaf p{k}" for k in range(7)])
        self.refused(TooMany, desk, "place leaf x", "set leaf title size 1")

    def test_too_many_fills(self):
        places = [f"place plain p{k}" for k in range(6)] + [f"place leaf q{k}" for k in range(7)]
        names = [f"p{k}" for k in range(6)] + [f"q{k}" for k in range(6)]
        desk = made_desk(*places, *[f"line c {name} x" for name in names])
        self.refused(TooMany, desk, "line c title x")
        self.told(desk, "line c p0 y", "-")

    def test_several_due(self):
        desk = made_desk()
        self.refused(NoSlide, desk, "hand none none size 0", "line none none x", "step none with 100 go title -")
        self.refused(NoSlide, desk, "link none title =none", "go none 9", "call none a", "hide none 5")
        self.refused(NoPlace, desk, "hand a none size 0", "set leaf none size 0")
        self.refused(Taken, desk, "add 9 a none")
        self.refused(NoMaster, desk, "add 9 x none")


class QuestionTest(DeskTest):
    def test_worth(self):
        desk = made_desk()
        self.told(desk, "worth a body left", "5 hand")
        self.told(desk, "worth a body ink", "ash master plain")
        self.told(desk, "worth b title size", "3 master plain")
        self.told(desk, "worth b title top", "0 own")
        self.told(desk, "worth a side ink", "plain own")
        desk.say("set leaf side left -9")
        self.told(desk, "worth c side left", "-9 master leaf")
        self.refused(NoSlide, desk, "worth none none left")
        self.refused(NoPlace, desk, "worth a none left", "worth b side left")

    def test_strays(self):
        desk = made_desk()
        self.told(desk, "strays a", "-")
        desk.say("step a with 0 go z 1")
        self.told(desk, "strays a", "z")
        desk.say("link a none first")
        self.told(desk, "strays a", "none; z")
        desk.say("unplace plain body")
        self.told(desk, "strays a", "body; none; z")
        self.refused(NoSlide, desk, "strays none", "strays plain")

    def test_outline(self):
        desk = made_desk()
        self.told(desk, "outline title", "1 a Title of a; 2 b ")
        self.told(desk, "outline body", "1 a one; 2 b ")
        self.told(desk, "outline none", "1 a ; 2 b ")
        desk.say("line b title  two; {n}  of {all} ")
        self.told(desk, "outline title", "1 a Title of a; 2 b  two; 2  of 2 ")
        self.told(told_desk("add 0 a plain", "hide a 1"), "outline title", "-")
        self.told(Desk(), "outline title", "-")

    def test_text(self):
        self.assertEqual(read(made_desk().say("text"))[1][0][0], "a")

    def test_a_question_changes_nothing(self):
        desk = made_desk("undo")
        text = desk.say("text")
        for row in QUESTIONS:
            self.assertEqual(desk.say(row), desk.say(row))
        self.told(desk, "text", text)
        self.told(desk, "again", "-")
        self.told(desk, "text", TEXT)


class ShowTest(DeskTest):
    def test_on_and_back(self):
        desk = made_desk()
        self.told(desk, "show", "a 0")
        for expected in ("a 1", "a 2", "b 0", "b 0"):
            self.told(desk, "on", expected)
        for expected in ("a 2", "a 1", "a 0", "a 0"):
            self.told(desk, "back", expected)

    def test_jump_and_return(self):
        desk = made_desk("show", "on")
        self.told(desk, "jump c", "c 0")
        self.told(desk, "jump b", "b 0")
        self.told(desk, "return", "c 0")
        self.told(desk, "return", "a 1")
        self.told(desk, "return", "a 1")
        self.told(desk, "jump c", "c 0")
        self.told(desk, "on", "a 1")
        self.refusals(NoSlide, desk, "jump none", "a 1")

    def refusals(self, error, desk, row, where):
        """The row refused, and the show as it was."""
        self.assertRaises(error, desk.say, row)
        text = desk.say("text")
        self.assertEqual(desk.say("text"), text)
        slide, presses = where.split(" ")
        self.told(desk, f"jump {slide}", f"{slide} 0")
        self.told(desk, "return", f"{slide} {presses}")

    def test_press(self):
        desk = made_desk("show", "on")
        self.told(desk, "press title", "b 0")
        self.told(desk, "press title", "a 1")
        self.refusals(NoLink, desk, "press body", "a 1")
        self.refusals(NoLink, desk, "press none", "a 1")
        desk.say("on")
        desk.say("on")
        self.told(desk, "press title", "b 0")

    def test_links_to_the_first_and_the_last(self):
        desk = made_desk("link a body last", "link b body first", "show")
        self.told(desk, "press body", "b 0")
        self.told(desk, "press body", "a 0")

    def test_picture(self):
        desk = made_desk("show")
        self.told(desk, "picture", "title 0 here; body 0 out; body 1 here")
        desk.say("on")
        self.told(desk, "picture", "title 0 here; body 0 here; body 1 here")
        desk.say("on")
        self.told(desk, "picture", "title 0 here; body 0 out; body 1 out")
        desk.say("on")
        self.told(desk, "picture", "-")

    def test_a_picture_is_that_of_the_end_of_the_group(self):
        desk = made_desk("step b with 99 dim title -", "line b title x", "show", "jump b")
        self.told(desk, "picture", "title 0 dim")

    def test_show_begins_a_new_one(self):
        desk = made_desk("show", "on", "jump c")
        self.told(desk, "show", "a 0")
        self.told(desk, "return", "a 0")

    def test_a_show_of_all_that_are_not_hidden(self):
        desk = made_desk("hide a 1", "hide c 0")
        self.told(desk, "show", "b 0")
        self.told(desk, "on", "c 0")
        self.told(desk, "on", "c 0")

    def test_no_show_where_none_is_not_hidden(self):
        self.refused(NoShow, Desk(), "show")
        self.refused(NoShow, told_desk("add 0 a plain", "hide a 1"), "show")

    def test_no_show(self):
        self.refused(NoShow, made_desk(), *SHOW_ROWS, "jump none", "press none")

    def ended(self, desk):
        for row in SHOW_ROWS:
            self.assertRaises(NoShow, desk.say, row)

    def test_ended_by_each_deed(self):
        self.assertEqual(len({row.split(" ")[0] for row in DEED_ROWS}), 21)
        for row in DEED_ROWS:
            with self.subTest(row):
                desk = made_desk("master spare -", "show")
                desk.say(row)
                self.ended(desk)

    def test_ended_by_undo_and_again(self):
        desk = made_desk("show", "undo")
        self.ended(desk)
        desk.say("show")
        desk.say("again")
        self.ended(desk)

    def test_ended_by_a_deed_that_leaves_the_deck_as_it_was(self):
        for row in ("call a a", "hide a 0", "under a leaf", "go a 0", "set plain title size 3"):
            desk = made_desk("show", row)
            self.ended(desk)

    def test_not_ended_by_what_is_refused(self):
        desk = made_desk("show", "on", "jump b")
        for row in (
            "take b",
            "hide a 2",
            "line none body x",
            "unlink a none",
            "again",
            "none",
            "text ",
            "set leaf side size 0",
            "jump none",
            "press body",
            "worth a none left",
        ):
            self.assertRaises(DeckError, desk.say, row)
        self.told(desk, "return", "a 1")

    def test_not_ended_by_a_refused_undo(self):
        desk = made_desk(*["undo"] * 10)
        desk.say("show")
        desk.say("on")
        while desk.say("text") != NEW:
            desk.say("undo")
        self.assertRaises(NoDeed, desk.say, "undo")
        desk = made_desk("show", "on")
        self.assertRaises(NoDeed, desk.say, "again")
        self.told(desk, "back", "a 0")

    def test_not_ended_by_a_question(self):
        desk = made_desk("show", "on", "jump b")
        for row in QUESTIONS + ("picture",):
            desk.say(row)
        self.told(desk, "return", "a 1")


class UndoTest(DeskTest):
    def test_through_deeds_of_all_kinds(self):
        desk = Desk()
        texts, answers = [desk.say("text")], []
        rows = MADE + ("master spare -",)
        for row in rows + tuple(row for row in DEED_ROWS if row not in ("take c", "rename leaf fresh")):
            try:
                answers.append(desk.say(row))
            except DeckError:
                continue
            texts.append(desk.say("text"))
        self.assertGreater(len(texts), 30)
        for text in texts[-2::-1]:
            desk.say("undo")
            self.told(desk, "text", text)
        self.assertRaises(NoDeed, desk.say, "undo")
        for text, answer in zip(texts[1:], answers, strict=True):
            self.told(desk, "again", answer)
            self.told(desk, "text", text)
        self.assertRaises(NoDeed, desk.say, "again")

    def test_each_deed_taken_back_and_done_again(self):
        for row in DEED_ROWS:
            with self.subTest(row):
                desk = made_desk("master spare -")
                ahead = desk.say("text")
                answer = desk.say(row)
                behind = desk.say("text")
                self.assertNotEqual(ahead, behind)
                self.assertEqual(sorted(desk.say("undo").split("; ")), sorted(answer.split("; ")))
                self.told(desk, "text", ahead)
                self.told(desk, "again", answer)
                self.told(desk, "text", behind)

    def test_a_deed_behind_an_undo(self):
        desk = made_desk("undo", "undo", "hide b 1")
        self.refused(NoDeed, desk, "again")

    def test_a_refused_row_behind_an_undo(self):
        desk = made_desk("undo")
        for row in ("take none", "hide b 7", "none", "line none x y"):
            self.assertRaises(DeckError, desk.say, row)
        self.told(desk, "again", "-")
        self.told(desk, "text", TEXT)

    def test_a_show_is_no_deed(self):
        desk = made_desk("show", "on", "jump b", "return")
        desk.say("undo")
        self.told(desk, "text", TEXT.replace("\nlink title return", ""))

    def test_what_is_touched_is_told_in_its_order(self):
        desk = made_desk()
        answer = desk.say("under b leaf")
        self.assertEqual(answer, "; ".join(all_of("b", "side")))
        desk.say("undo")
        answer = desk.say("set plain title left 1")
        self.assertEqual(answer, "a title left; b title left; c title left")
        desk.say("go a 2")
        self.assertEqual(desk.say("set plain title left 2"), "b title left; c title left; a title left")
        self.assertEqual(desk.say("undo"), "b title left; c title left; a title left")
        self.assertEqual(desk.say("undo"), "-")


class NoRowTest(DeskTest):
    def test_there_is_a_row_of_each_kind(self):
        self.assertEqual(len({row.split(" ")[0] for row in ROWS}), 34)

    def test_each_row_is_answered(self):
        for row in ROWS:
            with self.subTest(row):
                desk = made_desk("master spare -", "line b title x", "undo", "show")
                answer = desk.say(row)
                self.assertIs(type(answer), str)
                self.assertNotEqual(answer, "")

    def each(self, *changes):
        """Each row changed, refused by a desk with a show and by a new one."""
        there = made_desk("master spare -", "show")
        for row in ROWS:
            for change in changes:
                for other in change(row):
                    with self.subTest(other):
                        self.assertRaises(NoRow, there.say, other)
                        self.assertRaises(NoRow, Desk().say, other)
        self.told(there, "text", made_desk("master spare -").say("text"))
        self.told(there, "on", "a 1")

    def test_by_its_first_word(self):
        words = [row.split(" ")[0] for row in ROWS]

        def change(row):
            word, _, rest = row.partition(" ")
            for other in (word.upper(), word.title(), word + "s", word[:-1], word + ":", "x", ""):
                if other not in words:
                    yield f"{other} {rest}" if rest else other

        self.each(change)
        self.refused(NoRow, Desk(), "", " ", "none", "deck", "note a x", "fill a title 0", "steps a", "-", "\u00e9")

    def test_by_its_number_of_words(self):
        def more(row):
            if not row.startswith("line "):
                yield from (row + " x", row + " 0", row + " ", row + " -")

        def fewer(row):
            words = row.split(" ")
            for many in range(1, len(words)):
                yield " ".join(words[:many])

        self.each(more, fewer)
        self.refused(NoRow, made_desk(), "line a title", "line a", "line", "line ", "line a ")

    def test_by_its_blanks(self):
        def change(row):
            yield " " + row
            words = row.split(" ")
            for k in range(1, len(words) - row.startswith("line ")):
                yield " ".join(words[:k]) + "  " + " ".join(words[k:])

        self.each(change)

    def test_by_a_line_feed(self):
        def change(row):
            yield from ("\n" + row, row + "\n", row + "\ntext", row.replace(" ", "\n", 1) + "\n")

        self.each(change)
        self.refused(NoRow, made_desk(), "line a title x\n", "line a title \n", "line a title x\ny", "text\ntext")

    def test_by_names(self):
        desk = made_desk("show")
        for bad in ("A", "1a", "abcdefghi", "", "a-b", "=a", "a,b", "\u00e9", "5"):
            rows = (
                f"master {bad} -",
                f"master x {bad}",
                f"drop {bad}",
                f"set {bad} title size 1",
                f"set plain {bad} size 1",
                f"set plain title ink {bad}",
                f"unset {bad} title size",
                f"unset plain {bad} size",
                f"place {bad} x",
                f"place plain {bad}",
                f"unplace {bad} title",
                f"unplace plain {bad}",
                f"over {bad} -",
                f"over leaf {bad}",
                f"add 0 {bad} plain",
                f"add 0 x {bad}",
                f"take {bad}",
                f"go {bad} 0",
                f"call {bad} x",
                f"call a {bad}",
                f"rename {bad} x",
                f"rename leaf {bad}",
                f"hide {bad} 1",
                f"hand {bad} title size 1",
                f"hand a {bad} size 1",
                f"hand a title ink {bad}",
                f"free {bad} body left",
                f"free a {bad} left",
                f"under {bad} leaf",
                f"under a {bad}",
                f"line {bad} title x",
                f"line a {bad} x",
                f"empty {bad} title",
                f"empty a {bad}",
                f"step {bad} with 0 go title -",
                f"step a with 0 go {bad} -",
                f"link {bad} title first",
                f"link a {bad} first",
                f"link a title ={bad}",
                f"unlink {bad} title",
                f"unlink a {bad}",
                f"worth {bad} title size",
                f"worth a {bad} size",
                f"strays {bad}",
                f"outline {bad}",
                f"jump {bad}",
                f"press {bad}",
            )
            self.refused(NoRow, desk, *rows)
        self.refused(NoRow, desk, "drop -", "over - plain", "add 0 - plain", "add 0 x -", "under a -", "press -")

    def test_by_traits_and_told_words(self):
        desk = made_desk()
        for bad in ("", "Left", "lef", "lefts", "colour", "-", "body", "5"):
            self.refused(NoRow, desk, f"set plain title {bad} 1", f"unset plain title {bad}", f"hand a title {bad} 1")
            self.refused(NoRow, desk, f"free a body {bad}", f"worth a body {bad}")
        for bad in ("", "on", "Press", "presss", "come", "-", "0"):
            self.refused(NoRow, desk, f"step a {bad} 0 go title -")
        for bad in ("", "on", "Come", "comes", "press", "-", "0"):
            self.refused(NoRow, desk, f"step a press 0 {bad} title -")
        for bad in ("", "b", "-", "slide", "First", "=", "==b", "firs", "= b", "0"):
            self.refused(NoRow, desk, f"link a title {bad}")

    def test_by_numbers(self):
        desk = made_desk()
        long = ("1" * 4400, "0" * 10)
        for bad in ("", "05", "00", "-0", "-05", "+5", "5.0", "x", "-", "--5", "\u0665", "\u00b2") + long:
            rows = (
                f"set plain title left {bad}",
                f"hand a title size {bad}",
                f"add {bad} x plain",
                f"go a {bad}",
                f"hide a {bad}",
                f"step a press {bad} go title -",
            )
            self.refused(NoRow, desk, *rows)
            if bad != "-":
                self.refused(NoRow, desk, f"step a press 0 go title {bad}")

    def test_numbers_of_nine_and_of_ten_figures(self):
        desk = made_desk()
        for figures in ("123456789", "999999999", "-999999999", "100000000"):
            self.refused(NoWorth, desk, f"set plain title left {figures}", f"hand a title size {figures}")
            self.refused(NoWorth, desk, f"hide a {figures}", f"step a press {figures} go title -")
            self.refused(NoWorth, desk, f"step a press 0 go title {figures}")
            self.refused(NoNumber, desk, f"add {figures} x plain", f"go a {figures}")
        for figures in ("1234567890", "1000000000", "-1000000000"):
            self.refused(NoRow, desk, f"set plain title left {figures}", f"hand a title size {figures}")
            self.refused(NoRow, desk, f"hide a {figures}", f"step a press {figures} go title -")
            self.refused(NoRow, desk, f"step a press 0 go title {figures}")
            self.refused(NoRow, desk, f"add {figures} x plain", f"go a {figures}")

    def test_by_worths(self):
        desk = made_desk()
        for trait in TRAITS[:5]:
            self.refused(NoRow, desk, f"set plain title {trait} red", f"hand a title {trait} red")
        self.refused(NoRow, desk, "set plain title ink 5", "hand a title ink 5", "hand a title ink -")

    def test_by_lines(self):
        desk = made_desk()
        for bad in ("x" * 61, " " * 61, "100%", "a\\b", "a\tb", "caf\u00e9", "\r", "\x7f", "\u2028"):
            self.refused(NoRow, desk, f"line a title {bad}", f"line none title {bad}")

    def test_what_is_no_text(self):
        desk = made_desk("show")
        for thing in STRANGE + (None, 0, 1, (), [], b"text", ("text",), ["text"]):
            if not isinstance(thing, str):
                with self.subTest(kind=str(type(thing))):
                    self.assertRaises(NoRow, desk.say, thing)
        self.told(desk, "on", "a 1")

    def test_ahead_of_what_else_is_due(self):
        """NoRow, then NoShow, then what the stages refuse."""
        desk = made_desk()
        self.refused(NoRow, desk, "jump None", "press title ", "on 1", "picture x", "return back", "back ")
        self.refused(NoShow, desk, "jump none", "press none", "on", "back", "return", "picture")
        desk.say("show")
        self.refused(NoRow, desk, "jump None", "press title ", "take None")
        self.refused(NoRow, desk, "hand none none none 5", "step none x 0 go a -")
        self.refused(NoSlide, desk, "jump none", "take none", "hand none none size 0", "step none with 100 go a -")
        self.refused(NoLink, desk, "press none")


class TwoDesksTest(DeskTest):
    def test_two_desks(self):
        first, other = made_desk("show", "on"), Desk()
        self.told(other, "text", NEW)
        self.assertRaises(NoShow, other.say, "on")
        self.assertRaises(NoDeed, other.say, "undo")
        other.say("place plain x")
        self.told(first, "text", TEXT)
        self.told(first, "on", "a 2")
        first.say("undo")
        self.told(other, "text", NEW + "\nplace x")

    def test_the_same_rows_are_answered_the_same(self):
        desks = [Desk(), Desk()]
        for row in MADE + ROWS[21:] + ("undo", "undo", "again", "text", "show", "on", "picture"):
            answers = []
            for desk in desks:
                try:
                    answers.append(desk.say(row))
                except DeckError as refusal:
                    answers.append(str(refusal))
            self.assertEqual(answers[0], answers[1])


class FullTest(DeskTest):
    def test_forty_slides_and_twelve_masters(self):
        rows = [f"master m{k} {f'm{k - 1}' if k else 'plain'}" for k in range(11)]
        rows += ["place plain title"] + [f"add {k} s{k} m{k % 11}" for k in range(40)]
        rows += [f"line s{k} title number {{n}}" for k in range(40)]
        desk = told_desk(*rows)
        self.refused(TooMany, desk, "master x -", "add 0 x plain")
        self.told(desk, "outline title", "; ".join(f"{k + 1} s{k} number {k + 1}" for k in range(40)))
        self.told(desk, "set plain title ink red", "; ".join(f"s{k} title ink" for k in range(40)))
        self.assertEqual(len(read(desk.say("text"))[1]), 40)
        desk.say("show")
        for k in range(1, 40):
            self.told(desk, "on", f"s{k} 0")
        self.told(desk, "on", "s39 0")
        for _ in range(92 + 1):
            desk.say("undo")
        self.told(desk, "text", NEW)
        self.assertRaises(NoDeed, desk.say, "undo")
