"""Worths at slides: what is set by hand stands before what the slide's master says."""

from mastershow.decks import HANDS, MASTER, refuse_no_deck, slide_of
from mastershow.masters import places_of, said_of, worth_by, worth_said
from mastershow.names import TRAITS


def worth_here(masters, slide, place, trait):
    """The worth of a trait of a place at a slide under these masters, and where it comes from."""
    # The master is asked first, since it refuses what is no place and no trait.
    told = worth_by(masters, slide[MASTER], place, trait)
    for hand_place, hand_trait, worth in slide[HANDS]:
        if hand_place == place and hand_trait == trait:
            return worth, ("hand",)
    return told


def sheet_here(masters, slide):
    """Each worth at a slide under these masters: a list of (place, trait, worth, source)."""
    hands = {(place, trait): worth for place, trait, worth in slide[HANDS]}
    told = []
    for place in places_of(masters, slide[MASTER]):
        said = said_of(masters, slide[MASTER], place)
        for trait in TRAITS:
            worth, source = worth_said(said, trait)
            if (place, trait) in hands:
                worth, source = hands[place, trait], ("hand",)
            told.append((place, trait, worth, source))
    return told


def worth_at(deck, slide, place, trait):
    """The worth of a trait of a place at a slide, and where it comes from."""
    refuse_no_deck(deck)
    return worth_here(deck[0], slide_of(deck, slide), place, trait)


def sheet_of(deck, slide):
    """Each worth at a slide: a list of (place, trait, worth, source)."""
    refuse_no_deck(deck)
    return sheet_here(deck[0], slide_of(deck, slide))


def strays_of(deck, slide):
    """The names that a slide's hands, fills, steps and links name and that are none of its places."""
    refuse_no_deck(deck)
    name, master, hands, fills, steps, links, hidden, notes = slide_of(deck, slide)
    named = [thing[0] for thing in hands + fills + links] + [step[3] for step in steps]
    places = places_of(deck[0], master)
    return sorted({place for place in named if place not in places})
