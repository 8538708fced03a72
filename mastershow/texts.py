"""Decks written as texts, and read back."""

from mastershow.decks import fault_of, is_hand, is_hidden, is_notes, is_step, refuse_no_deck
from mastershow.errors import NoRow, NoText
from mastershow.kinds import is_whole_within
from mastershow.masters import is_setting
from mastershow.names import MOST_LINES
from mastershow.words import line_told, things_told, word_of, word_of_target

# What begins a row of a line, and a row of notes: all that stands behind it is theirs.
LINE_HEAD = "| "
NOTES_HEAD = "notes "

# What the words of a row are, by its first word.
FORMS = {
    "deck": (),
    "master": ("name", "over"),
    "place": ("name",),
    "set": ("trait", "worth"),
    "text": ("number",),
    "slide": ("name", "name", "number"),
    "hand": ("name", "trait", "worth"),
    "fill": ("name", "number"),
    "step": ("kind", "number", "deed", "name", "at_line"),
    "link": ("name", "target"),
}

# Behind which rows a row may stand, rows of lines left out; the first row stands behind none.
BEHIND = {
    "deck": (None,),
    "master": ("deck", "master", "place", "set", "text"),
    "place": ("master", "place", "set", "text"),
    "set": ("place", "set"),
    "text": ("place", "set"),
    "slide": ("master", "place", "set", "text", "slide", "hand", "fill", "step", "link", "notes"),
    "hand": ("slide", "hand"),
    "fill": ("slide", "hand", "fill"),
    "step": ("slide", "hand", "fill", "step"),
    "link": ("slide", "hand", "fill", "step", "link"),
    "notes": ("slide", "hand", "fill", "step", "link"),
}


def rows_of_lines(lines):
    """The rows that tell lines."""
    return [LINE_HEAD + line for line in lines]


def rows_of_place(place):
    """The rows that tell a place of a master."""
    name, settings, text = place
    rows = [f"place {name}"] + [f"set {trait} {worth}" for trait, worth in settings]
    if text is None:
        return rows
    return rows + [f"text {len(text)}"] + rows_of_lines(text)


def rows_of_master(master):
    """The rows that tell a master."""
    name, over, places = master
    rows = [f"master {name} {word_of(over)}"]
    for place in places:
        rows.extend(rows_of_place(place))
    return rows


def rows_of_slide(slide):
    """The rows that tell a slide."""
    name, master, hands, fills, steps, links, hidden, notes = slide
    rows = [f"slide {name} {master} {hidden}"]
    rows.extend([f"hand {place} {trait} {worth}" for place, trait, worth in hands])
    for place, lines in fills:
        rows.append(f"fill {place} {len(lines)}")
        rows.extend(rows_of_lines(lines))
    rows.extend([f"step {kind} {wait} {deed} {place} {word_of(line)}" for kind, wait, deed, place, line in steps])
    rows.extend([f"link {place} {word_of_target(target)}" for place, target in links])
    if notes != "":
        rows.append(NOTES_HEAD + notes)
    return rows


def text_of(deck):
    """The text that writes a deck."""
    refuse_no_deck(deck)
    masters, slides = deck
    rows = ["deck"]
    for master in masters:
        rows.extend(rows_of_master(master))
    for slide in slides:
        rows.extend(rows_of_slide(slide))
    return "\n".join(rows)


def is_within_bounds(word, things):
    """Whether what a row of this word tells is within its bounds."""
    if word == "set":
        return is_setting(things)
    if word == "hand":
        return is_hand(things)
    if word == "step":
        return is_step(things)
    if word == "slide":
        return is_hidden(things[2])
    if word in ("text", "fill"):
        return is_whole_within(things[-1], 0, MOST_LINES)
    return True


def notes_told(row):
    """What a row of notes tells."""
    notes = row[len(NOTES_HEAD) :]
    if notes == "" or not is_notes(notes):
        raise NoRow("no notes")
    return "notes", notes


def row_told(row):
    """What a row tells, rows of lines left out: its first word, and what the others tell."""
    if row.startswith(NOTES_HEAD):
        return notes_told(row)
    words = row.split(" ")
    if words[0] not in FORMS:
        raise NoRow("no such row")
    things = things_told(words[1:], FORMS[words[0]])
    if not is_within_bounds(words[0], things):
        raise NoRow("what is told is out of bounds")
    return (words[0], *things)


def line_of_row(row):
    """The line that a row of a line tells."""
    if not row.startswith(LINE_HEAD):
        raise NoRow("no row of a line")
    return line_told(row[len(LINE_HEAD) :])


class Reader:
    """Reads rows one by one, each told as a tuple that begins with its first word."""

    def __init__(self):
        self.rows = []
        # How many rows of lines are still to come.
        self.lacking = 0

    def take(self, row):
        """Take the next row, refused with NoRow where it can't stand."""
        if self.lacking > 0:
            self._take_line(line_of_row(row))
            return
        told = row_told(row)
        ahead = self.rows[-1][0] if self.rows else None
        if ahead not in BEHIND[told[0]]:
            raise NoRow("the row can't stand behind the one ahead of it")
        if told[0] in ("text", "fill"):
            self.lacking = told[-1]
            told = (*told[:-1], ())
        self.rows.append(told)

    def _take_line(self, line):
        *ahead, lines = self.rows[-1]
        self.rows[-1] = (*ahead, (*lines, line))
        self.lacking -= 1


def parted(rows, words):
    """Rows parted in lists, each of which begins with a row of one of these words."""
    groups = []
    for row in rows:
        if row[0] in words:
            groups.append([])
        groups[-1].append(row)
    return groups


def told_behind(rows, word):
    """What the rows of this word tell behind it."""
    return tuple(row[1:] for row in rows if row[0] == word)


def place_read(rows):
    """The place that its rows tell."""
    texts = told_behind(rows, "text")
    return rows[0][1], told_behind(rows, "set"), texts[0][0] if texts else None


def master_read(rows):
    """The master that its rows tell."""
    name, over = rows[0][1:]
    return name, over, tuple(place_read(group) for group in parted(rows[1:], ("place",)))


def slide_read(rows):
    """The slide that its rows tell."""
    name, master, hidden = rows[0][1:]
    hands, fills, steps, links = [told_behind(rows, word) for word in ("hand", "fill", "step", "link")]
    notes = "".join([told[0] for told in told_behind(rows, "notes")])
    return name, master, hands, fills, steps, links, hidden, notes


def deck_read(rows):
    """What its rows tell: a deck, or what is none only by its masters and slides as a whole."""
    groups = parted(rows[1:], ("master", "slide"))
    masters = tuple(master_read(group) for group in groups if group[0][0] == "master")
    slides = tuple(slide_read(group) for group in groups if group[0][0] == "slide")
    return masters, slides


def read(text):
    """The deck that a text writes."""
    if not isinstance(text, str):
        raise NoText(1)
    reader = Reader()
    for number, row in enumerate(text.split("\n"), start=1):
        try:
            reader.take(row)
        except NoRow:
            raise NoText(number) from None
    deck = deck_read(reader.rows)
    if reader.lacking > 0 or fault_of(deck) is not None:
        raise NoText(None)
    return deck
