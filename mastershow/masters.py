"""Masters: what they are, their chains and places, and what they say of a place."""

from mastershow.errors import NoMaster, NoPlace, NoTrait
from mastershow.kinds import first_alike, is_tuple_of, is_tuple_within, rises
from mastershow.names import OWN_WORTHS, TRAITS, is_lines, is_name, is_trait, is_worth

MOST_MASTERS = 12
MOST_PLACES = 8


def is_setting(thing):
    """Whether a thing is a setting: (trait, worth)."""
    if not is_tuple_of(thing, 2):
        return False
    trait, worth = thing
    return is_trait(trait) and is_worth(trait, worth)


def is_settings(thing):
    """Whether a thing is settings of unlike traits, in the order of the traits."""
    if not isinstance(thing, tuple) or not all(is_setting(setting) for setting in thing):
        return False
    return rises([TRAITS.index(trait) for trait, worth in thing])


def is_place(thing):
    """Whether a thing is a place: (name, settings, text)."""
    if not is_tuple_of(thing, 3):
        return False
    name, settings, text = thing
    return is_name(name) and is_settings(settings) and (text is None or is_lines(text))


def is_places(thing):
    """Whether a thing is the places of a master."""
    if not is_tuple_within(thing, 0, MOST_PLACES) or not all(is_place(place) for place in thing):
        return False
    return first_alike([name for name, settings, text in thing]) is None


def is_master(thing):
    """Whether a thing is a master: (name, over, places)."""
    if not is_tuple_of(thing, 3):
        return False
    name, over, places = thing
    return is_name(name) and (over is None or is_name(over)) and is_places(places)


def leads_round(overs, name):
    """Whether going from over to over, from this name on, comes to some name twice."""
    met = []
    while name is not None:
        if name in met:
            return True
        met.append(name)
        name = overs[name]
    return False


def fault_of_masters(things):
    """The first fault that keeps things from being masters, with its number, or None."""
    for k, thing in enumerate(things):
        if not is_master(thing):
            return "master", k
    alike = first_alike([name for name, over, places in things])
    if alike is not None:
        return "alike", alike
    overs = {name: over for name, over, places in things}
    for k, (name, over, places) in enumerate(things):
        if over is not None and over not in overs:
            return "over", k
    for k, (name, over, places) in enumerate(things):
        if leads_round(overs, name):
            return "ring", k
    return None


def is_masters(thing):
    """Whether a thing is masters."""
    return is_tuple_within(thing, 1, MOST_MASTERS) and fault_of_masters(thing) is None


def master_of(masters, name):
    """The master of this name."""
    # Only a name is looked for: of other things it is not known how they compare.
    if is_name(name):
        for master in masters:
            if master[0] == name:
                return master
    raise NoMaster("no name of a master")


def masters_along(masters, name):
    """The master of this name, the one over it, and so on."""
    along = [master_of(masters, name)]
    while along[-1][1] is not None:
        along.append(master_of(masters, along[-1][1]))
    return along


def chain_of(masters, name):
    """The names of a master, of the one over it, and so on."""
    return [master[0] for master in masters_along(masters, name)]


def places_of(masters, name):
    """The names of a master's places, those of the last of its chain first."""
    told = []
    for master, over, places in reversed(masters_along(masters, name)):
        for place, settings, text in places:
            if place not in told:
                told.append(place)
    return told


def said_of(masters, name, place):
    """What the chain says of a place, the nearest first: a list of (master, settings, text)."""
    along = masters_along(masters, name)
    if not is_name(place):
        raise NoPlace("no place of the master")
    said = [
        (master, settings, text)
        for master, over, places in along
        for own, settings, text in places
        if own == place
    ]
    if not said:
        raise NoPlace("no place of the master")
    return said


def worth_said(said, trait):
    """The worth of a trait by what is said of its place, and where it comes from."""
    for master, settings, text in said:
        for set_trait, worth in settings:
            if set_trait == trait:
                return worth, ("master", master)
    return OWN_WORTHS[trait], ("own",)


def worth_by(masters, name, place, trait):
    """The worth of a trait of a place at a master, and where it comes from."""
    said = said_of(masters, name, place)
    if not is_trait(trait):
        raise NoTrait("no trait")
    return worth_said(said, trait)


def text_by(masters, name, place):
    """The text of a place at a master, and the name of the master that it comes from."""
    for master, settings, text in said_of(masters, name, place):
        # Lines of none are a text, too: they hide the text of the masters over it.
        if text is not None:
            return text, master
    return None, None
