"""Steps: the groups that they make, and the time of each in its group."""

from mastershow.decks import is_steps
from mastershow.errors import NoSteps


def groups_of(steps):
    """The groups of steps: a list of lists of the steps' numbers."""
    if not is_steps(steps):
        raise NoSteps("no steps")
    groups = [[]]
    for k, step in enumerate(steps):
        if step[0] == "press":
            groups.append([])
        groups[-1].append(k)
    return groups


def times_in_group(steps):
    """The times of the steps of one group."""
    times = []
    base = 0
    for kind, wait, deed, place, line in steps:
        if kind == "after":
            base = max(times, default=0)
        times.append(base + wait)
    return times


def times_of(steps):
    """The time of each step in its group."""
    times = []
    for group in groups_of(steps):
        times.extend(times_in_group([steps[k] for k in group]))
    return times


def last_press(steps):
    """The number of the last group: how many presses there are."""
    return len(groups_of(steps)) - 1
