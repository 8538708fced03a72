"""Shows: they go on and back, and jump."""

from mastershow.decks import LINKS, names_not_hidden, refuse_no_deck, slide_of
from mastershow.errors import NoLink, NoShow, Taken
from mastershow.kinds import first_alike
from mastershow.names import is_name
from mastershow.pictures import picture_here
from mastershow.steps import last_press


def names_to_show(deck, names):
    """The names of the slides of a show, in a list of its own."""
    if names is None:
        names = names_not_hidden(deck)
    if not isinstance(names, list) or not names:
        raise NoShow("nothing to show")
    shown = [slide_of(deck, name)[0] for name in names]
    if first_alike(shown) is not None:
        raise Taken("a slide is named twice")
    return shown


def target_at(slide, place):
    """What the link of a slide at a place leads to."""
    # Only a name is looked for: of other things it is not known how they compare.
    if is_name(place):
        for linked, target in slide[LINKS]:
            if linked == place:
                return target
    raise NoLink("no link at the place")


class Show:
    """A show of a deck: it is at a slide, behind so many presses."""

    def __init__(self, deck, names):
        refuse_no_deck(deck)
        self._deck = deck
        self._names = names_to_show(deck, names)
        self._slide = self._names[0]
        self._presses = 0
        self._came_from = []

    def where(self):
        """The slide that the show is at, and behind how many presses."""
        return self._slide, self._presses

    def on(self):
        """Go one press on, or to the next slide; tell whether it went."""
        if self._presses < self._last_press(self._slide):
            self._presses += 1
            return True
        if self._slide not in self._names:
            return self.return_back()
        following = self._names[self._names.index(self._slide) + 1 :]
        if not following:
            return False
        self._go_to(following[0], 0)
        return True

    def back(self):
        """Go one press back, or to the end of the slide ahead; tell whether it went."""
        if self._presses > 0:
            self._presses -= 1
            return True
        if self._slide not in self._names:
            return self.return_back()
        ahead = self._names[: self._names.index(self._slide)]
        if not ahead:
            return False
        self._go_to(ahead[-1], self._last_press(ahead[-1]))
        return True

    def jump(self, name):
        """Jump to a slide of the deck."""
        slide = slide_of(self._deck, name)
        self._came_from.append(self.where())
        self._go_to(slide[0], 0)

    def return_back(self):
        """Go to where the last jump came from; tell whether there was one."""
        if not self._came_from:
            return False
        slide, presses = self._came_from.pop()
        self._go_to(slide, presses)
        return True

    def press(self, place):
        """Go where the link at a place leads to; tell whether it went."""
        target = target_at(slide_of(self._deck, self._slide), place)
        if target[0] == "return":
            return self.return_back()
        if target[0] == "slide":
            self.jump(target[1])
        elif target[0] == "first":
            self.jump(self._names[0])
        else:
            self.jump(self._names[-1])
        return True

    def trail(self):
        """Where the jumps that are not gone back from came from, the last one last."""
        return list(self._came_from)

    def picture_now(self, time):
        """The picture of where the show is at a time."""
        return picture_here(self._deck, slide_of(self._deck, self._slide), self._presses, time)

    def _go_to(self, slide, presses):
        self._slide = slide
        self._presses = presses

    def _last_press(self, name):
        return last_press(slide_of(self._deck, name)[4])
