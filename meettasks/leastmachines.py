"""The least machine that tells with what servers can leave whoever calls."""

from meettasks.basics import is_integer, is_list, is_word
from meettasks.errors import BadMachine
from meettasks.outlots import outside_of
from meettasks.outside import as_entry


def all_rows(outside):
    """The first rows to all lots of stands, by these, in the order of choices."""
    rows = {outside.first: ()}
    coming = [outside.first]
    at = 0
    while at < len(coming):
        lot = coming[at]
        at += 1
        for entry, behind in outside.ways(lot):
            if behind not in rows:
                rows[behind] = rows[lot] + (entry,)
                coming.append(behind)
    return rows


def numbered(marks):
    """Numbers for marks, by lots: from 0 on, as unlike marks come first; marks are lists of plain things."""
    numbers = {}
    return {lot: numbers.setdefault(marks[lot], len(numbers)) for lot in marks}


def parted(outside, rows):
    """By lots of stands the numbers of states: those are in one state behind which left lots are always the same."""
    parts = numbered({lot: tuple(outside.left_at(lot)) for lot in rows})
    many = 0
    while many < len(set(list(parts.values()))):
        many = len(set(list(parts.values())))
        parts = numbered({lot: (parts[lot], tuple([(entry, parts[behind]) for entry, behind in outside.ways(lot)]))
                          for lot in rows})
    return parts


def machine_of(outside):
    rows = all_rows(outside)
    # Rows come in the order of choices, and so do the states that they lead to first.
    parts = parted(outside, rows)
    found = []
    for lot in rows:
        if parts[lot] == len(found):
            steps = {entry: parts[behind] for entry, behind in outside.ways(lot)}
            found.append((rows[lot], tuple(outside.left_at(lot)), steps))
    return found


def least_machine(servers):
    return machine_of(outside_of(servers))


def is_entry(thing):
    entry = as_entry(thing)
    return entry is not None and is_word(entry[0]) and is_word(entry[1])


def is_entries(thing):
    return is_list(thing) and all([is_entry(entry) for entry in thing])


def is_entry_lot(thing):
    """Whether it is an ascending list of unlike entries."""
    if not is_entries(thing):
        return False
    entries = [as_entry(entry) for entry in thing]
    return entries == sorted(set(entries))


def is_machine_state(thing, many):
    if not is_list(thing) or len(thing) != 3 or not is_entries(thing[0]):
        return False
    if not is_list(thing[1]) or not all([is_entry_lot(lot) for lot in thing[1]]):
        return False
    steps = thing[2]
    if not isinstance(steps, dict) or not all([is_entry(key) for key in steps]):
        return False
    return all([is_integer(steps[key]) and 0 <= steps[key] < many for key in steps])


def lots_along(machine, row):
    if not is_list(machine) or not machine or not all([is_machine_state(one, len(machine)) for one in machine]):
        raise BadMachine(machine)
    at = 0
    for thing in row:
        entry = as_entry(thing)
        if entry not in machine[at][2]:
            return []
        at = machine[at][2][entry]
    return [tuple([as_entry(entry) for entry in lot]) for lot in machine[at][1]]
