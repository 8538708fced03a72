"""Words of rows: what each of them tells, and which is none of what it is to be."""

from mastershow.decks import DEEDS, KINDS, TURNS
from mastershow.errors import NoRow
from mastershow.names import FIGURES, TRAITS, is_line, is_name

# What is written where there is None.
NOTHING = "-"

MOST_FIGURES = 9


def name_told(word):
    """The name that a word tells."""
    if not is_name(word):
        raise NoRow("no name")
    return word


def number_told(word):
    """The whole number that a word tells."""
    figures = word[1:] if word.startswith("-") else word
    if not 1 <= len(figures) <= MOST_FIGURES or not all(sign in FIGURES for sign in figures):
        raise NoRow("no whole number")
    number = int(word)
    # Noughts ahead, or a minus ahead of nought, are written otherwise.
    if str(number) != word:
        raise NoRow("no whole number as it is written")
    return number


def one_told(word, words):
    """The word itself, which is one of these words."""
    if word not in words:
        raise NoRow("none of the words that may stand here")
    return word


def trait_told(word):
    """The trait that a word tells."""
    return one_told(word, TRAITS)


def kind_told(word):
    """The kind of a step that a word tells."""
    return one_told(word, KINDS)


def deed_told(word):
    """The deed of a step that a word tells."""
    return one_told(word, DEEDS)


def over_told(word):
    """The name that a word tells, or None."""
    return None if word == NOTHING else name_told(word)


def at_line_told(word):
    """The number of a line that a word tells, or None."""
    return None if word == NOTHING else number_told(word)


def target_told(word):
    """What a link leads to, as a word tells it."""
    if word.startswith("="):
        return "slide", name_told(word[1:])
    return (one_told(word, TURNS),)


def line_told(word):
    """The line that a word tells."""
    if not is_line(word):
        raise NoRow("no line")
    return word


def worth_told(trait, word):
    """The worth of a trait that a word tells, of whatever bounds."""
    return name_told(word) if trait == "ink" else number_told(word)


TOLD = {
    "name": name_told,
    "number": number_told,
    "trait": trait_told,
    "kind": kind_told,
    "deed": deed_told,
    "over": over_told,
    "at_line": at_line_told,
    "target": target_told,
    "line": line_told,
}


def things_told(words, kinds):
    """What words tell, one for each of the kinds; the worth of a trait stands behind the trait."""
    if len(words) != len(kinds):
        raise NoRow("not as many words as there are to be")
    things = []
    for kind, word in zip(kinds, words):
        if kind == "worth":
            things.append(worth_told(things[-1], word))
        else:
            told = TOLD[kind]
            things.append(told(word))
    return tuple(things)


def word_of(thing):
    """The word that tells a thing, or that there is None."""
    return NOTHING if thing is None else str(thing)


def word_of_target(target):
    """The word that tells what a link leads to."""
    return "=" + target[1] if target[0] == "slide" else target[0]
