"""Plain kinds of things: whole numbers, words, tuples and rising keys."""


def is_whole(thing):
    """Whether a thing is a whole number."""
    # To Python True and False are ints, to the document they are no numbers.
    return isinstance(thing, int) and not isinstance(thing, bool)


def is_whole_from(thing, low):
    """Whether a thing is a whole number from low on."""
    return is_whole(thing) and low <= thing


def is_whole_within(thing, low, high):
    """Whether a thing is a whole number from low to high."""
    return is_whole(thing) and low <= thing <= high


def is_one_of(thing, words):
    """Whether a thing is one of these words."""
    # Only texts are compared: of other things it is not known how they compare.
    return isinstance(thing, str) and thing in words


def is_tuple_of(thing, many):
    """Whether a thing is a tuple of so many things."""
    return isinstance(thing, tuple) and len(thing) == many


def is_tuple_within(thing, least, most):
    """Whether a thing is a tuple of at least and at most so many things."""
    return isinstance(thing, tuple) and least <= len(thing) <= most


def rises(keys):
    """Whether a list of keys rises, none of them standing in it twice."""
    return keys == sorted(set(keys))


def first_alike(names):
    """The number of the first name of a list that stands ahead of it, too, or None."""
    for k, name in enumerate(names):
        if name in names[:k]:
            return k
    return None
