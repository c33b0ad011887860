"""Callers from outside, and whether servers might leave them waiting."""

from meettasks.basics import is_integer, is_list, is_pair, is_word
from meettasks.errors import BadStates, NoEntry
from meettasks.outlots import outside_of
from meettasks.ways import ARRIVED, first_way


def is_entry_key(thing):
    return isinstance(thing, tuple) and len(thing) == 2 and is_word(thing[0]) and is_word(thing[1])


def is_state(thing, many):
    """Whether it is a state of a caller that has so many."""
    if not is_pair(thing) or not isinstance(thing[0], dict) or not isinstance(thing[1], bool):
        return False
    steps = thing[0]
    return all([is_entry_key(key) and is_integer(steps[key]) and 0 <= steps[key] < many for key in steps])


def ascending(steps):
    return {entry: steps[entry] for entry in sorted(steps)}


class Caller:
    """A caller by states: where it goes on by which entry, and whether it minds being left; it does not change."""

    def __init__(self, states):
        if not is_list(states) or not states:
            raise BadStates(0)
        for index, thing in enumerate(states):
            if not is_state(thing, len(states)):
                raise BadStates(index)
        self._rows = [(ascending(steps), minds) for steps, minds in states]

    def __eq__(self, other):
        return isinstance(other, Caller) and self._rows == other._rows

    def states(self):
        return [(ascending(steps), minds) for steps, minds in self._rows]


def check_entries_known(outside, states):
    for steps, _ in states:
        for owner, entry in steps:
            if (owner, entry) not in outside.entries:
                raise NoEntry(owner, entry)


def checked_outside(servers, caller):
    """What the caller meets; Restless, then NoEntry."""
    outside = outside_of(servers)
    check_entries_known(outside, caller.states())
    return outside


def first_left(outside, states):
    """The first row of its own by which a caller with these states might be left, or None."""

    def is_left(lot, state):
        steps, minds = states[state]
        return minds and outside.can_leave(lot, list(steps))

    def ways(place):
        lot, state = place
        steps, _ = states[state]
        found = []
        for entry in steps:
            behind = outside.behind(lot, entry)
            if behind:
                target = (behind, steps[entry])
                found.append((entry, ARRIVED if is_left(behind, steps[entry]) else target))
        return found

    return [] if is_left(outside.first, 0) else first_way((outside.first, 0), ways)


def left_row(servers, caller):
    return first_left(checked_outside(servers, caller), caller.states())


def is_safe(servers, caller):
    outside = checked_outside(servers, caller)
    return first_left(outside, [(steps, True) for steps, _ in caller.states()]) is None
