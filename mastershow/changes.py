"""Changes of masters and of slides: each tells a deck, the one handed in with this alone changed."""

from mastershow.decks import FILLS, HANDS, MASTER, MOST_FILLS, MOST_HANDS, rank_of_hand, refuse_no_deck, slide_of
from mastershow.errors import NoPlace, NoSetting, NoTrait, NoWorth, Ring, Taken, TooMany
from mastershow.masters import MOST_PLACES, chain_of, master_of, places_of
from mastershow.names import TRAITS, is_lines, is_name, is_trait, is_worth


def put_by_name(things, fresh):
    """Things with a fresh one in the place of the one of its name, or behind them where there is none."""
    if fresh[0] not in [thing[0] for thing in things]:
        return things + (fresh,)
    return tuple(fresh if thing[0] == fresh[0] else thing for thing in things)


def with_master(deck, master):
    """The deck with this master in the place of the one of its name."""
    masters, slides = deck
    return put_by_name(masters, master), slides


def with_place(deck, master, place):
    """The deck with this place in the place of the master's own one of its name, or behind its own."""
    name, over, places = master_of(deck[0], master)
    return with_master(deck, (name, over, put_by_name(places, place)))


def own_place(master, place):
    """A master's own place of this name, or None."""
    for own in master[2]:
        if own[0] == place:
            return own
    return None


def refuse_no_place(masters, name, place):
    """Refuse what is none of the places of the master of this name."""
    if not is_name(place) or place not in places_of(masters, name):
        raise NoPlace("none of the places")


def refuse_one_more_place(master):
    """Refuse one more place of its own for a master that has as many as it may."""
    if len(master[2]) >= MOST_PLACES:
        raise TooMany("more places than a master may have")


def place_to_change(masters, name, place):
    """A master's own place, or one to be put to it where only a master over it has the place."""
    master = master_of(masters, name)
    refuse_no_place(masters, name, place)
    own = own_place(master, place)
    if own is not None:
        return own
    refuse_one_more_place(master)
    return place, (), None


def place_of_its_own(masters, name, place):
    """A master's own place, refused where it has none of this name itself."""
    master = master_of(masters, name)
    own = own_place(master, place) if is_name(place) else None
    if own is None:
        raise NoPlace("no place of the master's own")
    return own


def with_setting(settings, trait, worth):
    """Settings with this one in the place of the one of its trait, in the order of the traits."""
    worths = dict(settings)
    worths[trait] = worth
    return tuple((known, worths[known]) for known in TRAITS if known in worths)


def set_trait(deck, master, place, trait, worth):
    """The deck with a setting put to a place of a master."""
    refuse_no_deck(deck)
    name, settings, text = place_to_change(deck[0], master, place)
    # What is no trait is refused by is_worth, ahead of what is no worth.
    if not is_worth(trait, worth):
        raise NoWorth("no worth of the trait")
    return with_place(deck, master, (name, with_setting(settings, trait, worth), text))


def unset_trait(deck, master, place, trait):
    """The deck with a setting taken out of a master's own place."""
    refuse_no_deck(deck)
    name, settings, text = place_of_its_own(deck[0], master, place)
    if not is_trait(trait):
        raise NoTrait("no trait")
    others = tuple(setting for setting in settings if setting[0] != trait)
    if len(others) == len(settings):
        raise NoSetting("no setting of the trait")
    return with_place(deck, master, (name, others, text))


def put_place(deck, master, place):
    """The deck with a new place put behind a master's own."""
    refuse_no_deck(deck)
    known = master_of(deck[0], master)
    if not is_name(place):
        raise NoPlace("no name of a place")
    if place in places_of(deck[0], master):
        raise Taken("the chain has the place already")
    refuse_one_more_place(known)
    return with_place(deck, master, (place, (), None))


def take_place(deck, master, place):
    """The deck with a master's own place taken out."""
    refuse_no_deck(deck)
    own = place_of_its_own(deck[0], master, place)
    name, over, places = master_of(deck[0], master)
    return with_master(deck, (name, over, tuple(other for other in places if other[0] != own[0])))


def set_text(deck, master, place, lines):
    """The deck with lines, or None, given to a place of a master."""
    refuse_no_deck(deck)
    name, settings, _ = place_to_change(deck[0], master, place)
    if lines is not None and not is_lines(lines):
        raise NoWorth("neither lines nor None")
    return with_place(deck, master, (name, settings, lines))


def lay_under(deck, master, over):
    """The deck with a master laid under another one, or under None."""
    refuse_no_deck(deck)
    name, _, places = master_of(deck[0], master)
    # A deck has no ring, so one can come only through the master that is laid anew.
    if over is not None and name in chain_of(deck[0], over):
        raise Ring("the master would come to stand over itself")
    return with_master(deck, (name, over, places))


def with_slide(deck, slide):
    """The deck with this slide in the place of the one of its name."""
    masters, slides = deck
    return masters, put_by_name(slides, slide)


def with_part(deck, slide, at, part):
    """The deck with this part of a slide, told by its place in it, for the one that it has."""
    return with_slide(deck, (*slide[:at], part, *slide[at + 1 :]))


def by_hand(deck, slide, place, trait, worth):
    """The deck with a hand put to a slide."""
    refuse_no_deck(deck)
    found = slide_of(deck, slide)
    refuse_no_place(deck[0], found[MASTER], place)
    # What is no trait is refused by is_worth, ahead of what is no worth.
    if not is_worth(trait, worth):
        raise NoWorth("no worth of the trait")
    hands = [hand for hand in found[HANDS] if hand[:2] != (place, trait)] + [(place, trait, worth)]
    if len(hands) > MOST_HANDS:
        raise TooMany("more hands than a slide may have")
    return with_part(deck, found, HANDS, tuple(sorted(hands, key=rank_of_hand)))


def let_go(deck, slide, place, trait):
    """The deck with a hand taken out of a slide."""
    refuse_no_deck(deck)
    found = slide_of(deck, slide)
    if not is_trait(trait):
        raise NoTrait("no trait")
    if not is_name(place) or (place, trait) not in [hand[:2] for hand in found[HANDS]]:
        raise NoSetting("no hand of this place and trait")
    return with_part(deck, found, HANDS, tuple(hand for hand in found[HANDS] if hand[:2] != (place, trait)))


def without_fill(deck, slide, place):
    """The deck with the fill of a place taken out of a slide."""
    if not is_name(place) or place not in [fill[0] for fill in slide[FILLS]]:
        raise NoSetting("no fill of this place")
    return with_part(deck, slide, FILLS, tuple(fill for fill in slide[FILLS] if fill[0] != place))


def fill_place(deck, slide, place, lines):
    """The deck with a place of a slide filled with lines, or with its fill taken out where None is given."""
    refuse_no_deck(deck)
    found = slide_of(deck, slide)
    if lines is None:
        return without_fill(deck, found, place)
    refuse_no_place(deck[0], found[MASTER], place)
    if not is_lines(lines):
        raise NoWorth("neither lines nor None")
    fills = put_by_name(found[FILLS], (place, lines))
    if len(fills) > MOST_FILLS:
        raise TooMany("more fills than a slide may have")
    return with_part(deck, found, FILLS, tuple(sorted(fills)))


def lay_slide(deck, slide, master):
    """The deck with a slide laid under a master."""
    refuse_no_deck(deck)
    found = slide_of(deck, slide)
    under = master_of(deck[0], master)
    return with_part(deck, found, MASTER, under[0])
