"""Notes of slides, and the pages that they make."""

from mastershow.decks import NOTES, refuse_no_deck, slide_of
from mastershow.errors import NoRoom
from mastershow.kinds import is_whole_from
from mastershow.lines import rows_of, words_of


def notes_of(deck):
    """The notes of the slides that have any: a list of (slide, notes)."""
    refuse_no_deck(deck)
    return [(slide[0], slide[NOTES]) for slide in deck[1] if slide[NOTES] != ""]


def notes_pages(deck, slide, wide, high):
    """The notes of a slide in rows of so many signs, parted in pages of so many rows."""
    refuse_no_deck(deck)
    notes = slide_of(deck, slide)[NOTES]
    if not is_whole_from(wide, 1) or not is_whole_from(high, 1):
        raise NoRoom("no measures of a page")
    # A line without words would make a row, but notes without words make none.
    rows = rows_of((notes,), wide) if words_of(notes) else []
    return [rows[first : first + high] for first in range(0, len(rows), high)]
