"""A desk: it keeps a deck and at most one show, and is told rows."""

from mastershow.changes import put_by_name
from mastershow.decks import FILLS, LINKS, STEPS, slide_of
from mastershow.errors import NoLink, NoRow, NoShow
from mastershow.keepers import Keeper
from mastershow.numbers import outline_of
from mastershow.shows import Show
from mastershow.texts import text_of
from mastershow.words import NOTHING, things_told
from mastershow.worths import strays_of, worth_at

# What a desk keeps at first: one master without places, and no slides.
FIRST_DECK = ((("plain", None, ()),), ())

# What the words of a row are, by its first word.
FORMS = {
    "master": ("name", "over"),
    "drop": ("name",),
    "set": ("name", "name", "trait", "worth"),
    "unset": ("name", "name", "trait"),
    "place": ("name", "name"),
    "unplace": ("name", "name"),
    "over": ("name", "over"),
    "add": ("number", "name", "name"),
    "take": ("name",),
    "go": ("name", "number"),
    "call": ("name", "name"),
    "rename": ("name", "name"),
    "hide": ("name", "number"),
    "hand": ("name", "name", "trait", "worth"),
    "free": ("name", "name", "trait"),
    "under": ("name", "name"),
    "line": ("name", "name", "line"),
    "empty": ("name", "name"),
    "step": ("name", "kind", "number", "deed", "name", "at_line"),
    "link": ("name", "name", "target"),
    "unlink": ("name", "name"),
    "undo": (),
    "again": (),
    "worth": ("name", "name", "trait"),
    "strays": ("name",),
    "outline": ("name",),
    "text": (),
    "show": (),
    "on": (),
    "back": (),
    "jump": ("name",),
    "return": (),
    "press": ("name",),
    "picture": (),
}


def row_told(row):
    """The first word of a row, and what the others tell."""
    if not isinstance(row, str):
        raise NoRow("no text")
    # A line is all that stands behind the third blank, with blanks of its own.
    words = row.split(" ", 3) if row.startswith("line ") else row.split(" ")
    if words[0] not in FORMS:
        raise NoRow("no such row")
    return words[0], things_told(words[1:], FORMS[words[0]])


def deed_of_master(deck, name, over):
    """The deed that puts a master without places."""
    return "master", (name, over, ())


def deed_of_add(deck, at, name, master):
    """The deed that puts a slide without anything else in."""
    return "add", at, (name, master, (), (), (), (), 0, "")


def deed_of_line(deck, name, place, line):
    """The deed that puts one more line to a fill, or begins it."""
    fills = dict(slide_of(deck, name)[FILLS])
    return "fill", name, place, (*fills.get(place, ()), line)


def deed_of_empty(deck, name, place):
    """The deed that takes a fill out."""
    return "fill", name, place, None


def deed_of_step(deck, name, kind, wait, deed, place, line):
    """The deed that puts one step more to a slide."""
    return "steps", name, (*slide_of(deck, name)[STEPS], (kind, wait, deed, place, line))


def deed_of_link(deck, name, place, target):
    """The deed that puts a link to a slide, in the place of the one at this place."""
    links = put_by_name(slide_of(deck, name)[LINKS], (place, target))
    return "links", name, tuple(sorted(links))


def deed_of_unlink(deck, name, place):
    """The deed that takes a link out of a slide."""
    links = slide_of(deck, name)[LINKS]
    others = tuple(link for link in links if link[0] != place)
    if len(others) == len(links):
        raise NoLink("no link at the place")
    return "links", name, others


# Rows that are not the deed itself.
MADE = {
    "master": deed_of_master,
    "add": deed_of_add,
    "line": deed_of_line,
    "empty": deed_of_empty,
    "step": deed_of_step,
    "link": deed_of_link,
    "unlink": deed_of_unlink,
}


def deed_of(deck, word, things):
    """The deed that a row does to a deck."""
    if word not in MADE:
        return (word, *things)
    make = MADE[word]
    return make(deck, *things)


def joined(rows):
    """What is told of several things."""
    return "; ".join(rows) if rows else NOTHING


def worth_row(deck, slide, place, trait):
    """The worth of a trait of a place at a slide, and where it comes from."""
    worth, source = worth_at(deck, slide, place, trait)
    where = " ".join(source)
    return f"{worth} {where}"


def strays_row(deck, slide):
    """The names at a slide that are none of its places."""
    return joined(strays_of(deck, slide))


def outline_row(deck, place):
    """The outline of a place."""
    return joined([f"{number} {slide} {title}" for slide, number, title in outline_of(deck, place)])


def text_row(deck):
    """The deck's text."""
    return text_of(deck)


# Rows that ask of the deck.
ASKED = {"worth": worth_row, "strays": strays_row, "outline": outline_row, "text": text_row}


def where_row(show):
    """Where a show is."""
    slide, presses = show.where()
    return f"{slide} {presses}"


def on_row(show):
    """Where a show is behind one press on."""
    show.on()
    return where_row(show)


def back_row(show):
    """Where a show is behind one press back."""
    show.back()
    return where_row(show)


def jump_row(show, name):
    """Where a show is behind a jump."""
    show.jump(name)
    return where_row(show)


def return_row(show):
    """Where a show is behind going back from a jump."""
    show.return_back()
    return where_row(show)


def press_row(show, place):
    """Where a show is behind the press of a link."""
    show.press(place)
    return where_row(show)


def picture_row(show):
    """What is seen of a show at the end of the group."""
    return joined([f"{place} {number} {state}" for place, number, line, state in show.picture_now(None)])


# Rows that need a show.
SHOWN = {
    "on": on_row,
    "back": back_row,
    "jump": jump_row,
    "return": return_row,
    "press": press_row,
    "picture": picture_row,
}


class Desk:
    """A desk, which answers rows."""

    def __init__(self):
        self._keeper = Keeper(FIRST_DECK)
        self._show = None

    def say(self, row):
        """The answer to a row."""
        word, things = row_told(row)
        deck = self._keeper.deck()
        if word in ASKED:
            ask = ASKED[word]
            return ask(deck, *things)
        if word == "show":
            self._show = Show(deck, None)
            return where_row(self._show)
        if word in SHOWN:
            return self._shown(word, things)
        touched = self._touched(word, things)
        # Only what was answered ends a show: what was refused has not come so far.
        self._show = None
        return joined([" ".join(key) for key in touched])

    def _shown(self, word, things):
        if self._show is None:
            raise NoShow("no show")
        shown = SHOWN[word]
        return shown(self._show, *things)

    def _touched(self, word, things):
        if word == "undo":
            return self._keeper.undo()
        if word == "again":
            return self._keeper.again()
        return self._keeper.do(deed_of(self._keeper.deck(), word, things))
