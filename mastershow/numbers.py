"""Numbers of slides, the outline of a place, and the lines that a word is found in."""

from mastershow.decks import MASTER, names_not_hidden, number_here, refuse_no_deck, slide_of, slides_not_hidden
from mastershow.errors import NoNumber, NoPlace, NoWord
from mastershow.kinds import is_whole_within
from mastershow.lines import lines_here, words_of
from mastershow.masters import places_of
from mastershow.names import is_name, is_word


def number_of(deck, slide):
    """The number of the slide of this name, or None where it is hidden."""
    refuse_no_deck(deck)
    return number_here(deck, slide_of(deck, slide)[0])


def at_number(deck, number):
    """The name of the slide of this number."""
    refuse_no_deck(deck)
    names = names_not_hidden(deck)
    if not is_whole_within(number, 1, len(names)):
        raise NoNumber("no number of a slide")
    return names[number - 1]


def title_here(deck, slide, place):
    """The first line at a place of a slide, or the text without signs where there is none."""
    # A stray's fill is no title, so what is none of the slide's places has no lines here.
    if place not in places_of(deck[0], slide[MASTER]):
        return ""
    lines = lines_here(deck, slide, place)
    return lines[0] if lines else ""


def outline_of(deck, place):
    """The outline of a place: a list of (slide, number, title)."""
    refuse_no_deck(deck)
    if not is_name(place):
        raise NoPlace("no name of a place")
    return [
        (slide[0], number, title_here(deck, slide, place))
        for number, slide in enumerate(slides_not_hidden(deck), start=1)
    ]


def found_lines(deck, word):
    """The lines of which a word is one of the words: a list of (slide, place, number)."""
    refuse_no_deck(deck)
    if not is_word(word):
        raise NoWord("no word")
    return [
        (slide[0], place, number)
        for slide in deck[1]
        for place in places_of(deck[0], slide[MASTER])
        for number, line in enumerate(lines_here(deck, slide, place))
        if word in words_of(line)
    ]
