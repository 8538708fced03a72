"""What is seen to change between two decks."""

from mastershow.decks import refuse_no_deck
from mastershow.worths import sheet_here


def worths_of(masters, slide):
    """The worths at a slide under these masters, in order: a dict from (place, trait) to the worth."""
    return {(place, trait): worth for place, trait, worth, source in sheet_here(masters, slide)}


def touched_in(ahead, behind):
    """The places and traits of which the worths ahead and behind are unlike, or of which just one has any."""
    unlike = [key for key in ahead if key not in behind or ahead[key] != behind[key]]
    return unlike + [key for key in behind if key not in ahead]


def touched_by(deck, fresh):
    """What is seen to change between two decks: a list of (slide, place, trait)."""
    refuse_no_deck(deck)
    refuse_no_deck(fresh)
    later = {slide[0]: slide for slide in fresh[1]}
    told = []
    for slide in deck[1]:
        name = slide[0]
        if name in later:
            ahead = worths_of(deck[0], slide)
            behind = worths_of(fresh[0], later[name])
            told.extend([(name, place, trait) for place, trait in touched_in(ahead, behind)])
    return told
