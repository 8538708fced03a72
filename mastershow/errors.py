"""The refusals of mastershow, one class for each kind."""


class DeckError(ValueError):
    """Any refusal."""


class NoDeck(DeckError):
    """What is handed in as a deck is none."""


class NoMaster(DeckError):
    """No name of a master, or no master."""


class NoSlide(DeckError):
    """No name of a slide, or no slide."""


class NoPlace(DeckError):
    """None of the places that are asked for."""


class NoTrait(DeckError):
    """No trait."""


class NoWorth(DeckError):
    """No worth of the trait, no lines, or no other worth that is asked for."""


class NoSetting(DeckError):
    """Nothing is set that could be taken out."""


class NoName(DeckError):
    """No name."""


class Taken(DeckError):
    """The name is there already."""


class TooMany(DeckError):
    """One more than there may be."""


class Ring(DeckError):
    """Going from over to over would come to a name twice."""


class Used(DeckError):
    """What is to be taken out is needed by something else."""


class NoRoom(DeckError):
    """No measure of a room, or no room is left in it."""


class NoSteps(DeckError):
    """No steps of a slide."""


class NoPress(DeckError):
    """No number of presses of the slide."""


class NoTime(DeckError):
    """No time in a group of steps."""


class NoShow(DeckError):
    """Nothing to be shown, or no show."""


class NoLink(DeckError):
    """No link at the place, or a link that leads nowhere."""


class NoNumber(DeckError):
    """No number of a slide, or of where one could be put."""


class NoWord(DeckError):
    """No word that could be looked for."""


class NoDeed(DeckError):
    """No deed, or none to take back or to do again."""


class NoText(DeckError):
    """No text of a deck; row is the first row that can't stand, or None."""

    def __init__(self, row):
        super().__init__(f"no text of a deck, row {row}")
        self.row = row


class NoRow(DeckError):
    """No row of those that may be told, or with a word that may not stand in it."""
