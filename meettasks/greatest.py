"""The greatest of all callers that are never left, and go on for ever."""

from meettasks.basics import is_within, least_lots
from meettasks.callers import checked_outside
from meettasks.leastmachines import machine_of
from meettasks.outlots import outside_of


def can_leave_at(machine, state, entries):
    """Whether, at a state of the machine, the caller can be left with these entries."""
    return any([is_within(entries, lot) for lot in machine[state][1]])


def kept_steps(machine, state, states):
    """The steps of a state that lead to one of some states."""
    steps = machine[state][2]
    return {entry: steps[entry] for entry in steps if steps[entry] in states}


def greatest_states(machine):
    """The greatest lot of states at each of which the entries that lead into it, all together, cannot be left."""
    states = list(range(len(machine)))
    many = -1
    while many != len(states):
        many = len(states)
        states = [at for at in states if not can_leave_at(machine, at, list(kept_steps(machine, at, states)))]
    return states


def greatest_of(machine):
    states = greatest_states(machine)
    if 0 not in states:
        return None
    found = {}
    for at in states:
        steps = kept_steps(machine, at, states)
        found[at] = (steps, needs_at(machine, at, list(steps)))
    return found


def needs_at(machine, at, entries):
    """The least lots of some entries that cannot be left at a state."""
    return least_lots(entries, lambda lot: not can_leave_at(machine, at, lot))


def greatest_caller(servers):
    return greatest_of(machine_of(outside_of(servers)))


def is_along(machine, greatest, steps, at):
    """Whether a state of a caller is ready as the greatest caller's state asks; so it never comes to other states."""
    inner, needs = greatest[at]
    if any([entry in machine[at][2] and entry not in inner for entry in steps]):
        return False
    return any([is_within(need, steps) for need in needs])


def goes_along(servers, caller):
    machine = machine_of(checked_outside(servers, caller))
    states = caller.states()
    greatest = greatest_of(machine)
    if greatest is None:
        return False
    coming = [(0, 0)]
    seen = {(0, 0): True}
    while coming:
        state, at = coming.pop()
        steps, _ = states[state]
        if not is_along(machine, greatest, steps, at):
            return False
        for entry in steps:
            if entry in machine[at][2]:
                place = (steps[entry], machine[at][2][entry])
                if place not in seen:
                    seen[place] = True
                    coming.append(place)
    return True
