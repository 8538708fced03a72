"""Masters: what they are, their chains and places, and what they say of a place."""

from mastershow.errors import NoMaster, NoPlace, NoTrait
from mastershow.names import OWN_WORTHS, TRAITS, is_lines, is_name, is_trait, is_worth

MOST_MASTERS = 12
MOST_PLACES = 8


def is_setting(thing):
    """Whether a thing is a setting: (trait, worth)."""
    if not isinstance(thing, tuple) or len(thing) != 2:
        return False
    trait, worth = thing
    return is_trait(trait) and is_worth(trait, worth)


def is_settings(thing):
    """Whether a thing is settings of unlike traits, in the order of the traits."""
    if not isinstance(thing, tuple) or not all(is_setting(setting) for setting in thing):
        return False
    ranks = [TRAITS.index(trait) for trait, worth in thing]
    return ranks == sorted(set(ranks))


def is_place(thing):
    """Whether a thing is a place: (name, settings, text)."""
    if not isinstance(thing, tuple) or len(thing) != 3:
        return False
    name, settings, text = thing
    return is_name(name) and is_settings(settings) and (text is None or is_lines(text))


def is_places(thing):
    """Whether a thing is the places of a master."""
    if not isinstance(thing, tuple) or len(thing) > MOST_PLACES:
        return False
    if not all(is_place(place) for place in thing):
        return False
    return len({name for name, settings, text in thing}) == len(thing)


def is_master(thing):
    """Whether a thing is a master: (name, over, places)."""
    if not isinstance(thing, tuple) or len(thing) != 3:
        return False
    name, over, places = thing
    return is_name(name) and (over is None or is_name(over)) and is_places(places)


def overs_of(masters):
    """A dict that leads from the name of each master to its over."""
    return {name: over for name, over, places in masters}


def leads_round(overs, name):
    """Whether going from over to over, from this name on, comes to some name twice."""
    met = []
    while name is not None:
        if name in met:
            return True
        met.append(name)
        name = overs[name]
    return False


def is_masters(thing):
    """Whether a thing is masters."""
    if not isinstance(thing, tuple) or not 1 <= len(thing) <= MOST_MASTERS:
        return False
    if not all(is_master(master) for master in thing):
        return False
    overs = overs_of(thing)
    if len(overs) != len(thing):
        return False
    if not all(over is None or over in overs for name, over, places in thing):
        return False
    return not any(leads_round(overs, name) for name, over, places in thing)


def masters_along(masters, name):
    """The master of this name, the one over it, and so on."""
    known = {master[0]: master for master in masters}
    # Only a name is looked up: of other things it is not known how they compare.
    if not is_name(name) or name not in known:
        raise NoMaster("no name of a master")
    along = []
    over = name
    while over is not None:
        along.append(known[over])
        over = known[over][1]
    return along


def chain_of(masters, name):
    """The names of a master, of the one over it, and so on."""
    return [master[0] for master in masters_along(masters, name)]


def places_of(masters, name):
    """The names of a master's places, those of the last of its chain first."""
    told = []
    for master, over, places in reversed(masters_along(masters, name)):
        for place, settings, text in places:
            if place not in told:
                told.append(place)
    return told


def said_of(masters, name, place):
    """What the chain says of a place, the nearest first: a list of (master, settings, text)."""
    along = masters_along(masters, name)
    if not is_name(place):
        raise NoPlace("no place of the master")
    said = [
        (master, settings, text)
        for master, over, places in along
        for own, settings, text in places
        if own == place
    ]
    if not said:
        raise NoPlace("no place of the master")
    return said


def worth_by(masters, name, place, trait):
    """The worth of a trait of a place at a master, and where it comes from."""
    said = said_of(masters, name, place)
    if not is_trait(trait):
        raise NoTrait("no trait")
    for master, settings, text in said:
        for set_trait, worth in settings:
            if set_trait == trait:
                return worth, ("master", master)
    return OWN_WORTHS[trait], ("own",)


def text_by(masters, name, place):
    """The text of a place at a master, and the name of the master that it comes from."""
    for master, settings, text in said_of(masters, name, place):
        # Lines of none are a text, too: they hide the text of the masters over it.
        if text is not None:
            return text, master
    return None, None
