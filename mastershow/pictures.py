"""Pictures: what is seen of a slide at a moment, behind so many presses and at a time."""

from mastershow.decks import MASTER, STEPS, refuse_no_deck, slide_of
from mastershow.errors import NoPress, NoTime
from mastershow.kinds import is_whole_from, is_whole_within
from mastershow.lines import lines_here, room_here, rows_of
from mastershow.masters import places_of
from mastershow.steps import groups_of, last_press, times_of


def refuse_no_moment(slide, presses, time):
    """Refuse what is no number of presses of a slide, then what is no time."""
    if not is_whole_within(presses, 0, last_press(slide[STEPS])):
        raise NoPress("no number of presses of the slide")
    if time is not None and not is_whole_from(time, 0):
        raise NoTime("no time")


def done_steps(steps, presses, time):
    """The steps that are done at a moment, in the order in which they are done."""
    times = times_of(steps)
    done = []
    for number, group in enumerate(groups_of(steps)[: presses + 1]):
        # Pairs of a time and a number: steps of like times are done by their numbers.
        for due, k in sorted([(times[k], k) for k in group]):
            if number < presses or time is None or due <= time:
                done.append(steps[k])
    return done


def steps_naming(steps, place, number):
    """Those of the steps that name a line of a place."""
    return [step for step in steps if step[3] == place and (step[4] is None or step[4] == number)]


def state_behind(state, deed):
    """The state of a line behind a deed that names it."""
    if deed == "come":
        return "here"
    if deed == "go" or state == "out":
        return "out"
    return "dim"


def state_of(steps, done, place, number):
    """The state of a line of a place behind those of a slide's steps that are done."""
    naming = steps_naming(steps, place, number)
    state = "out" if naming and naming[0][2] == "come" else "here"
    for step in steps_naming(done, place, number):
        state = state_behind(state, step[2])
    return state


def picture_here(deck, slide, presses, time):
    """What is seen of a slide of a deck at a moment: a list of (place, number, line, state)."""
    refuse_no_moment(slide, presses, time)
    steps = slide[STEPS]
    done = done_steps(steps, presses, time)
    return [
        (place, number, line, state_of(steps, done, place, number))
        for place in places_of(deck[0], slide[MASTER])
        for number, line in enumerate(lines_here(deck, slide, place))
    ]


def picture_of(deck, slide, presses, time):
    """What is seen of the slide of this name at a moment: a list of (place, number, line, state)."""
    refuse_no_deck(deck)
    return picture_here(deck, slide_of(deck, slide), presses, time)


def rows_in(room, line):
    """The rows that a line makes in a room."""
    if room is None:
        return []
    size, signs = room
    return rows_of((line,), signs)


def seen_at(deck, slide, presses, time):
    """The lines that are not out at a moment, in their rows: a list of (place, number, rows, state)."""
    refuse_no_deck(deck)
    found = slide_of(deck, slide)
    picture = picture_here(deck, found, presses, time)
    rooms = {place: room_here(deck, found, place) for place in places_of(deck[0], found[MASTER])}
    return [
        (place, number, rows_in(rooms[place], line), state)
        for place, number, line, state in picture
        if state != "out"
    ]
