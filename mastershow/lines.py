"""Lines at the places of slides, with their fields put in, and in rows that fit."""

from mastershow.decks import FILLS, MASTER, names_not_hidden, number_here, refuse_no_deck, slide_of
from mastershow.errors import NoRoom
from mastershow.kinds import is_whole_from
from mastershow.masters import text_by
from mastershow.names import is_worth
from mastershow.worths import worth_here


def fields_of(deck, slide):
    """What is put in at a slide for each word between braces."""
    number = number_here(deck, slide[0])
    all_told = len(names_not_hidden(deck))
    return {"n": "-" if number is None else str(number), "all": str(all_told), "name": slide[0]}


def put_in(line, fields):
    """A line with its fields put in."""
    head, *parts = line.split("{")
    # Each part is looked at once and by itself, so what is put in never becomes part of a field.
    told = [head]
    for part in parts:
        word, end, rest = part.partition("}")
        if end and word in fields:
            told.append(fields[word] + rest)
        else:
            told.append("{" + part)
    return "".join(told)


def unfilled_lines(deck, slide, place):
    """The lines at a place of a slide, their fields not put in."""
    # The master is asked first, since it refuses what is no place.
    text, _ = text_by(deck[0], slide[MASTER], place)
    for filled, lines in slide[FILLS]:
        if filled == place:
            return lines
    return () if text is None else text


def lines_here(deck, slide, place):
    """The lines at a place of a slide of a deck."""
    fields = fields_of(deck, slide)
    return tuple(put_in(line, fields) for line in unfilled_lines(deck, slide, place))


def lines_at(deck, slide, place):
    """The lines at a place of the slide of this name."""
    refuse_no_deck(deck)
    return lines_here(deck, slide_of(deck, slide), place)


def words_of(line):
    """The words of a line: its parts between blanks."""
    return [word for word in line.split(" ") if word]


def rows_of_line(line, wide):
    """A line parted in rows of at most so many signs."""
    rows = []
    row = ""
    for word in words_of(line):
        if row and len(row) + 1 + len(word) <= wide:
            row = row + " " + word
            continue
        if row:
            rows.append(row)
        row = word
        while len(row) > wide:
            rows.append(row[:wide])
            row = row[wide:]
    # A line without words still makes a row; any other line leaves its last one.
    return rows + [row]


def rows_of(lines, wide):
    """Lines parted in rows of at most so many signs."""
    if not is_whole_from(wide, 1):
        raise NoRoom("no number of signs")
    return [row for line in lines for row in rows_of_line(line, wide)]


def fits(lines, wide, high, size):
    """Whether lines fit a room of a wide and a high by a size."""
    signs = wide // size
    return signs >= 1 and len(rows_of(lines, signs)) <= high // size


def greatest_size(lines, wide, high, size):
    """The greatest size, from 1 to a size, by which lines fit a room, or None."""
    for tried in range(size, 0, -1):
        if fits(lines, wide, high, tried):
            return tried
    return None


def shrunk_to(lines, wide, high, size):
    """The greatest size, from 1 to a size, by which lines fit a room, or None."""
    if not is_worth("wide", wide) or not is_worth("high", high) or not is_worth("size", size):
        raise NoRoom("no measures of a room")
    return greatest_size(lines, wide, high, size)


def room_here(deck, slide, place):
    """The size by which a place of a slide is laid, and the signs in a row by it, or None."""
    wide, high, size = [worth_here(deck[0], slide, place, trait)[0] for trait in ("wide", "high", "size")]
    fitting = greatest_size(lines_here(deck, slide, place), wide, high, size)
    return None if fitting is None else (fitting, wide // fitting)


def laid_at(deck, slide, place):
    """The size by which a place of a slide is laid and the rows that its lines make by it, or None."""
    refuse_no_deck(deck)
    found = slide_of(deck, slide)
    room = room_here(deck, found, place)
    if room is None:
        return None
    size, signs = room
    return size, rows_of(lines_here(deck, found, place), signs)
