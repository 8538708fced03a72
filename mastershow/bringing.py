"""Slides brought from another deck, with the masters that they need."""

from mastershow.decks import HIDDEN, LINKS, MASTER, MOST_SLIDES, followed_links, refuse_no_deck, slide_of
from mastershow.errors import NoNumber, NoSlide, Taken, TooMany
from mastershow.kinds import first_alike, is_whole_within
from mastershow.masters import MOST_MASTERS, chain_of, masters_along
from mastershow.names import LONGEST_NAME


def slides_to_bring(other, names):
    """The slides of these names, which are unlike."""
    if not isinstance(names, list):
        raise NoSlide("no list of names")
    slides = [slide_of(other, name) for name in names]
    if first_alike([slide[0] for slide in slides]) is not None:
        raise Taken("a slide is named twice")
    return slides


def masters_needed(masters, slides):
    """The masters of the slides' chains, in their order."""
    needed = {name: True for slide in slides for name in chain_of(masters, slide[MASTER])}
    return [master for master in masters if master[0] in needed]


def is_there(masters, others, name):
    """Whether a master of the others is one of the masters, too: alike all along its chain."""
    if name not in [master[0] for master in masters]:
        return False
    # Chains of the same names lead over the same masters, so whole masters can be compared.
    return masters_along(masters, name) == masters_along(others, name)


def first_free(name, taken):
    """The first name that is free: this one, else it with 2, 3 .. behind it, cut as far as need be."""
    free = name
    number = 2
    while free in taken:
        figures = str(number)
        free = name[: LONGEST_NAME - len(figures)] + figures
        number += 1
    return free


def free_names(names, taken):
    """For each of the names, in their order, the first one that is free: a dict."""
    taken = list(taken)
    told = {}
    for name in names:
        told[name] = first_free(name, taken)
        taken.append(told[name])
    return told


def brought_master(master, here):
    """A master as it is put to the deck: here tells the new names, of it and of the one over it."""
    name, over, places = master
    return here[name], None if over is None else here[over], places


def is_left_out(link, called):
    """Whether a link leads to a slide that is not among the brought ones."""
    place, target = link
    return target[0] == "slide" and target[1] not in called


def brought_slide(slide, here, called):
    """A slide as it is put to the deck: here tells the new names of masters, called those of slides."""
    links = tuple(link for link in slide[LINKS] if not is_left_out(link, called))
    ahead = (called[slide[0]], here[slide[MASTER]], *slide[MASTER + 1 : LINKS])
    return (*ahead, followed_links(links, called), *slide[HIDDEN:])


def links_left_out(brought, called):
    """The links left out of the brought slides: a list of (new name, place)."""
    return [
        (called[slide[0]], link[0]) for slide in brought for link in slide[LINKS] if is_left_out(link, called)
    ]


def brought_in(deck, other, names, at):
    """The deck with slides of another one put in, and the pairs of names and the links left out."""
    refuse_no_deck(deck)
    refuse_no_deck(other)
    brought = slides_to_bring(other, names)
    masters, slides = deck
    if not is_whole_within(at, 0, len(slides)):
        raise NoNumber("no number of where slides could be put")
    needed = masters_needed(other[0], brought)
    lacking = [master for master in needed if not is_there(masters, other[0], master[0])]
    if len(masters) + len(lacking) > MOST_MASTERS:
        raise TooMany("more masters than there may be")
    if len(slides) + len(brought) > MOST_SLIDES:
        raise TooMany("more slides than there may be")
    here = {master[0]: master[0] for master in needed}
    here.update(free_names([master[0] for master in lacking], [master[0] for master in masters]))
    called = free_names(names, [slide[0] for slide in slides])
    fresh = tuple(brought_slide(slide, here, called) for slide in brought)
    told = (
        masters + tuple(brought_master(master, here) for master in lacking),
        slides[:at] + fresh + slides[at:],
    )
    return told, list(here.items()), list(called.items()), links_left_out(brought, called)
