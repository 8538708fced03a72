"""Handouts: pages with a box for each slide that is not hidden."""

from mastershow.decks import names_not_hidden, refuse_no_deck
from mastershow.errors import NoRoom
from mastershow.kinds import is_tuple_of, is_whole_from

# The shape of a slide's box: so many parts wide and so many high.
BOX_WIDE = 4
BOX_HIGH = 3


def is_page(thing):
    """Whether a thing is a page: (wide, high, gap)."""
    if not is_tuple_of(thing, 3):
        return False
    wide, high, gap = thing
    return is_whole_from(wide, 1) and is_whole_from(high, 1) and is_whole_from(gap, 0)


def cell_length(length, many, gap):
    """How long each of so many cells is along a page of a length, with a gap at both ends and between."""
    return (length - (many + 1) * gap) // many


def handouts(deck, across, down, page):
    """The boxes of the slides on pages of cells: a list of (slide, page, left, top, wide, high)."""
    refuse_no_deck(deck)
    if not is_whole_from(across, 1) or not is_whole_from(down, 1) or not is_page(page):
        raise NoRoom("no measures of a handout")
    wide, high, gap = page
    cell_wide = cell_length(wide, across, gap)
    cell_high = cell_length(high, down, gap)
    scale = min(cell_wide // BOX_WIDE, cell_high // BOX_HIGH)
    if scale < 1:
        raise NoRoom("no room for a box")
    told = []
    for k, name in enumerate(names_not_hidden(deck)):
        rows_ahead, column = divmod(k, across)
        sheet, row = divmod(rows_ahead, down)
        left = gap + column * (cell_wide + gap)
        top = gap + row * (cell_high + gap)
        told.append((name, sheet, left, top, BOX_WIDE * scale, BOX_HIGH * scale))
    return told
