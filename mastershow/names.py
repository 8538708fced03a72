"""Names, traits, worths and lines: what is one and what is none."""

from mastershow.errors import NoTrait
from mastershow.kinds import is_one_of, is_tuple_within, is_whole_within

TRAITS = ("left", "top", "wide", "high", "size", "ink")

# The least and the greatest worth of each trait whose worths are numbers.
BOUNDS = {
    "left": (-999, 999),
    "top": (-999, 999),
    "wide": (1, 999),
    "high": (1, 999),
    "size": (1, 99),
}

# The deck's own worths, which stand where nothing is set.
OWN_WORTHS = {"left": 0, "top": 0, "wide": 40, "high": 10, "size": 1, "ink": "plain"}

LETTERS = "abcdefghijklmnopqrstuvwxyz"
FIGURES = "0123456789"

# The percent sign and the backslash: they lie from the blank to "~", but no text has them.
BARRED_CODES = (37, 92)

LONGEST_NAME = 8
LONGEST_LINE = 60
MOST_LINES = 12


def is_name(thing):
    """Whether a thing is a name."""
    if not isinstance(thing, str) or not 1 <= len(thing) <= LONGEST_NAME:
        return False
    return thing[0] in LETTERS and all(sign in LETTERS or sign in FIGURES for sign in thing)


def is_trait(thing):
    """Whether a thing is a trait."""
    return is_one_of(thing, TRAITS)


def is_worth(trait, thing):
    """Whether a thing is a worth of a trait."""
    if not is_trait(trait):
        raise NoTrait("no trait")
    if trait == "ink":
        return is_name(thing)
    low, high = BOUNDS[trait]
    return is_whole_within(thing, low, high)


def is_sign(sign):
    """Whether a sign is one that texts may have."""
    return " " <= sign <= "~" and ord(sign) not in BARRED_CODES


def is_plain(thing):
    """Whether a thing is a text, none of its signs a line feed."""
    return isinstance(thing, str) and all(is_sign(sign) for sign in thing)


def is_text(thing, longest):
    """Whether a thing is a text of at most so many signs, none of them a line feed."""
    return is_plain(thing) and len(thing) <= longest


def is_word(thing):
    """Whether a thing is a text of one sign or more, none of them a blank."""
    return is_plain(thing) and thing != "" and " " not in thing


def is_line(thing):
    """Whether a thing is a line."""
    return is_text(thing, LONGEST_LINE)


def is_lines(thing):
    """Whether a thing is lines."""
    return is_tuple_within(thing, 0, MOST_LINES) and all(is_line(line) for line in thing)
