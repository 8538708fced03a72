"""Deeds: each tells the deck behind it."""

from mastershow.changes import (
    by_hand,
    fill_place,
    lay_slide,
    lay_under,
    let_go,
    put_place,
    set_text,
    set_trait,
    take_place,
    unset_trait,
    with_part,
)
from mastershow.decks import (
    HIDDEN,
    LINKS,
    MASTER,
    MOST_SLIDES,
    NOTES,
    STEPS,
    followed_links,
    is_hidden,
    is_links,
    is_notes,
    is_slide,
    is_steps,
    leads_astray,
    refuse_no_deck,
    slide_of,
)
from mastershow.errors import NoDeed, NoLink, NoMaster, NoName, NoNumber, NoSlide, NoWorth, Taken, TooMany, Used
from mastershow.kinds import is_whole_within
from mastershow.masters import MOST_MASTERS, is_master, master_of
from mastershow.names import is_name

# How many things a deed of each word has, its word among them.
HOW_MANY = {
    "set": 5,
    "unset": 4,
    "place": 3,
    "unplace": 3,
    "text": 4,
    "over": 3,
    "hand": 5,
    "free": 4,
    "fill": 4,
    "under": 3,
    "master": 2,
    "drop": 2,
    "add": 3,
    "take": 2,
    "go": 3,
    "call": 3,
    "rename": 3,
    "hide": 3,
    "note": 3,
    "steps": 3,
    "links": 3,
}


def is_deed(thing):
    """Whether a thing is a deed: a tuple of one of the words and as many things as that wants."""
    if not isinstance(thing, tuple) or not thing or not isinstance(thing[0], str):
        return False
    return thing[0] in HOW_MANY and len(thing) == HOW_MANY[thing[0]]


def names_in(things):
    """The names of masters or of slides."""
    return [thing[0] for thing in things]


def refuse_no_new_name(names, old, other):
    """Refuse what is no name, then a name that another one of them has."""
    if not is_name(other):
        raise NoName("no name")
    if other != old and other in names:
        raise Taken("another one has the name")


def refuse_no_number(number, many):
    """Refuse what is no number of where a slide could be put among so many."""
    if not is_whole_within(number, 0, many):
        raise NoNumber("no number of where a slide could be put")


def refuse_links_astray(links, names):
    """Refuse links of which one leads to none of these slides."""
    if leads_astray(links, names):
        raise NoLink("a link leads to a slide that is not there")


def put_master(deck, master):
    """The deck with a master put behind the others."""
    masters, slides = deck
    if not is_master(master):
        raise NoMaster("no master")
    names = names_in(masters)
    if master[0] in names:
        raise Taken("a master has the name already")
    if len(masters) >= MOST_MASTERS:
        raise TooMany("more masters than there may be")
    if master[1] is not None and master[1] not in names:
        raise NoMaster("the master over it is not there")
    return masters + (master,), slides


def drop_master(deck, name):
    """The deck with a master taken out."""
    masters, slides = deck
    dropped = master_of(masters, name)
    used = [master[1] for master in masters] + [slide[MASTER] for slide in slides]
    if dropped[0] in used or len(masters) == 1:
        raise Used("the master is needed")
    return tuple(master for master in masters if master[0] != dropped[0]), slides


def rename_master(deck, name, other):
    """The deck with another name for a master, which overs and slides follow."""
    masters, slides = deck
    old = master_of(masters, name)[0]
    refuse_no_new_name(names_in(masters), old, other)
    names = {old: other}
    renamed = tuple((names.get(own, own), names.get(over, over), places) for own, over, places in masters)
    moved = tuple((slide[0], names.get(slide[MASTER], slide[MASTER]), *slide[MASTER + 1 :]) for slide in slides)
    return renamed, moved


def add_slide(deck, at, slide):
    """The deck with a slide put in, so many of the others ahead of it."""
    masters, slides = deck
    if not is_slide(slide):
        raise NoSlide("no slide")
    names = names_in(slides)
    if slide[0] in names:
        raise Taken("a slide has the name already")
    if len(slides) >= MOST_SLIDES:
        raise TooMany("more slides than there may be")
    master_of(masters, slide[MASTER])
    refuse_links_astray(slide[LINKS], names + [slide[0]])
    refuse_no_number(at, len(slides))
    return masters, slides[:at] + (slide,) + slides[at:]


def others_than(slides, slide):
    """The slides but for this one."""
    return tuple(other for other in slides if other[0] != slide[0])


def take_slide(deck, name):
    """The deck with a slide taken out."""
    masters, slides = deck
    taken = slide_of(deck, name)
    others = others_than(slides, taken)
    # A link of the slide to itself goes with it.
    if any(leads_astray(other[LINKS], names_in(others)) for other in others):
        raise Used("another slide links to the slide")
    return masters, others


def move_slide(deck, name, at):
    """The deck with a slide taken out and put in, so many of the others ahead of it."""
    masters, slides = deck
    moved = slide_of(deck, name)
    others = others_than(slides, moved)
    refuse_no_number(at, len(others))
    return masters, others[:at] + (moved,) + others[at:]


def call_slide(deck, name, other):
    """The deck with another name for a slide, which links follow."""
    masters, slides = deck
    old = slide_of(deck, name)[0]
    refuse_no_new_name(names_in(slides), old, other)
    called = []
    for slide in slides:
        own = other if slide[0] == old else slide[0]
        called.append((own, *slide[1:LINKS], followed_links(slide[LINKS], {old: other}), *slide[HIDDEN:]))
    return masters, tuple(called)


def hide_slide(deck, name, hidden):
    """The deck with a slide hidden, or not."""
    slide = slide_of(deck, name)
    if not is_hidden(hidden):
        raise NoWorth("neither 0 nor 1")
    return with_part(deck, slide, HIDDEN, hidden)


def note_slide(deck, name, notes):
    """The deck with other notes for a slide."""
    slide = slide_of(deck, name)
    if not is_notes(notes):
        raise NoWorth("no notes")
    return with_part(deck, slide, NOTES, notes)


def give_steps(deck, name, steps):
    """The deck with other steps for a slide."""
    slide = slide_of(deck, name)
    if not is_steps(steps):
        raise NoWorth("no steps")
    return with_part(deck, slide, STEPS, steps)


def give_links(deck, name, links):
    """The deck with other links for a slide."""
    slide = slide_of(deck, name)
    if not is_links(links):
        raise NoWorth("no links")
    refuse_links_astray(links, names_in(deck[1]))
    return with_part(deck, slide, LINKS, links)


def change_by(word):
    """The change that a deed of this word makes."""
    changes = {
        "set": set_trait,
        "unset": unset_trait,
        "place": put_place,
        "unplace": take_place,
        "text": set_text,
        "over": lay_under,
        "hand": by_hand,
        "free": let_go,
        "fill": fill_place,
        "under": lay_slide,
        "master": put_master,
        "drop": drop_master,
        "add": add_slide,
        "take": take_slide,
        "go": move_slide,
        "call": call_slide,
        "rename": rename_master,
        "hide": hide_slide,
        "note": note_slide,
        "steps": give_steps,
        "links": give_links,
    }
    return changes[word]


def done_deed(deck, deed):
    """The deck behind a deed."""
    refuse_no_deck(deck)
    if not is_deed(deed):
        raise NoDeed("no deed")
    word, *things = deed
    change = change_by(word)
    return change(deck, *things)
