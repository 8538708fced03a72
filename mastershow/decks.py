"""Decks: what are hands, fills, steps, links, slides and decks, and the first fault of what is none."""

from mastershow.errors import NoDeck, NoSlide
from mastershow.kinds import first_alike, is_one_of, is_tuple_of, is_tuple_within, is_whole_within, rises
from mastershow.masters import MOST_MASTERS, fault_of_masters
from mastershow.names import MOST_LINES, TRAITS, is_lines, is_name, is_text, is_trait, is_worth

KINDS = ("press", "with", "after")
DEEDS = ("come", "go", "dim")

# Where a link may lead to that names no slide.
TURNS = ("first", "last", "return")

# Where the parts of a slide stand in it, behind its name.
MASTER = 1
HANDS = 2
FILLS = 3
STEPS = 4
LINKS = 5
HIDDEN = 6
NOTES = 7

LONGEST_WAIT = 99
LONGEST_NOTES = 200
MOST_HANDS = 48
MOST_FILLS = 12
MOST_STEPS = 24
MOST_LINKS = 12
MOST_SLIDES = 40


def is_hand(thing):
    """Whether a thing is a hand: (place, trait, worth)."""
    if not is_tuple_of(thing, 3):
        return False
    place, trait, worth = thing
    return is_name(place) and is_trait(trait) and is_worth(trait, worth)


def rank_of_hand(hand):
    """What the order of hands goes by: the name of the place, then the trait's place among the traits."""
    return hand[0], TRAITS.index(hand[1])


def is_hands(thing):
    """Whether a thing is the hands of a slide."""
    if not is_tuple_within(thing, 0, MOST_HANDS) or not all(is_hand(hand) for hand in thing):
        return False
    return rises([rank_of_hand(hand) for hand in thing])


def is_fill(thing):
    """Whether a thing is a fill: (place, lines)."""
    return is_tuple_of(thing, 2) and is_name(thing[0]) and is_lines(thing[1])


def is_fills(thing):
    """Whether a thing is the fills of a slide."""
    if not is_tuple_within(thing, 0, MOST_FILLS) or not all(is_fill(fill) for fill in thing):
        return False
    return rises([place for place, lines in thing])


def is_step(thing):
    """Whether a thing is a step: (kind, wait, deed, place, line)."""
    if not is_tuple_of(thing, 5):
        return False
    kind, wait, deed, place, line = thing
    if not is_one_of(kind, KINDS) or not is_one_of(deed, DEEDS) or not is_name(place):
        return False
    return is_whole_within(wait, 0, LONGEST_WAIT) and (line is None or is_whole_within(line, 0, MOST_LINES - 1))


def is_steps(thing):
    """Whether a thing is the steps of a slide."""
    return is_tuple_within(thing, 0, MOST_STEPS) and all(is_step(step) for step in thing)


def is_target(thing):
    """Whether a thing is what a link may lead to."""
    if is_tuple_of(thing, 2):
        return is_one_of(thing[0], ("slide",)) and is_name(thing[1])
    return is_tuple_of(thing, 1) and is_one_of(thing[0], TURNS)


def is_link(thing):
    """Whether a thing is a link: (place, target)."""
    return is_tuple_of(thing, 2) and is_name(thing[0]) and is_target(thing[1])


def is_links(thing):
    """Whether a thing is the links of a slide."""
    if not is_tuple_within(thing, 0, MOST_LINKS) or not all(is_link(link) for link in thing):
        return False
    return rises([place for place, target in thing])


def is_hidden(thing):
    """Whether a thing tells of a slide whether it is hidden."""
    return is_whole_within(thing, 0, 1)


def is_notes(thing):
    """Whether a thing is the notes of a slide."""
    return is_text(thing, LONGEST_NOTES)


def is_slide(thing):
    """Whether a thing is a slide: (name, master, hands, fills, steps, links, hidden, notes)."""
    if not is_tuple_of(thing, 8):
        return False
    name, master, hands, fills, steps, links, hidden, notes = thing
    if not is_name(name) or not is_name(master) or not is_hidden(hidden):
        return False
    if not is_hands(hands) or not is_fills(fills) or not is_steps(steps) or not is_links(links):
        return False
    return is_notes(notes)


def leads_astray(links, names):
    """Whether one of the links leads to a slide that is none of these names."""
    return any(target[0] == "slide" and target[1] not in names for place, target in links)


def followed_links(links, names):
    """Links that follow slides from their old names to the new ones, which a dict tells."""
    return tuple(
        (place, ("slide", names[target[1]])) if target[0] == "slide" and target[1] in names else (place, target)
        for place, target in links
    )


def fault_of_slides(things, masters):
    """The first fault that keeps things from being slides under these masters, with its number, or None."""
    for k, thing in enumerate(things):
        if not is_slide(thing):
            return "slide", k
    names = [slide[0] for slide in things]
    same = first_alike(names)
    if same is not None:
        return "same", same
    known = [master[0] for master in masters]
    for k, slide in enumerate(things):
        if slide[MASTER] not in known:
            return "under", k
    for k, slide in enumerate(things):
        if leads_astray(slide[LINKS], names):
            return "link", k
    return None


def fault_of(thing):
    """The first fault that keeps a thing from being a deck, or None where it is one."""
    if not is_tuple_of(thing, 2):
        return ("deck",)
    masters, slides = thing
    if not is_tuple_within(masters, 1, MOST_MASTERS) or not is_tuple_within(slides, 0, MOST_SLIDES):
        return ("deck",)
    fault = fault_of_masters(masters)
    if fault is not None:
        return fault
    return fault_of_slides(slides, masters)


def refuse_no_deck(thing):
    """Refuse what is no deck."""
    if fault_of(thing) is not None:
        raise NoDeck("no deck")


def slide_of(deck, name):
    """The slide of this name."""
    # Only a name is looked for: of other things it is not known how they compare.
    if is_name(name):
        for slide in deck[1]:
            if slide[0] == name:
                return slide
    raise NoSlide("no name of a slide")


def slides_not_hidden(deck):
    """The slides that are not hidden, in the deck's order: their numbers go by it, from 1 on."""
    return [slide for slide in deck[1] if slide[HIDDEN] == 0]


def names_not_hidden(deck):
    """The names of the slides that are not hidden, in the deck's order."""
    return [slide[0] for slide in slides_not_hidden(deck)]


def number_here(deck, name):
    """The number of the slide of this name, or None where it is hidden."""
    names = names_not_hidden(deck)
    return names.index(name) + 1 if name in names else None
