"""Keepers: each keeps a deck, does deeds to it, takes them back and does them again."""

from mastershow.decks import refuse_no_deck
from mastershow.deeds import done_deed
from mastershow.errors import NoDeed
from mastershow.touches import touched_by


class Keeper:
    """A keeper of a deck."""

    def __init__(self, deck):
        refuse_no_deck(deck)
        self._now = deck
        # The decks that deeds changed: ahead of those done, and behind those taken back.
        self._earlier = []
        self._later = []

    def do(self, deed):
        """Do a deed; tell what it touches."""
        fresh = done_deed(self._now, deed)
        self._earlier.append(self._now)
        self._later = []
        return self._turned_to(fresh)

    def undo(self):
        """Take back the last deed that is not taken back; tell what that touches."""
        if not self._earlier:
            raise NoDeed("no deed to take back")
        self._later.append(self._now)
        return self._turned_to(self._earlier.pop())

    def again(self):
        """Do the last deed again that was taken back; tell what that touches."""
        if not self._later:
            raise NoDeed("no deed to do again")
        self._earlier.append(self._now)
        return self._turned_to(self._later.pop())

    def deck(self):
        """The deck as it is now."""
        return self._now

    def _turned_to(self, deck):
        ahead = self._now
        self._now = deck
        return touched_by(ahead, deck)
