"""Rows of uses of a thing: how an entry comes to be open, and how it stays shut for ever."""

from meettasks.basics import by_choice, first_bad_word, is_list, is_pair, is_within, least_lots
from meettasks.errors import BadNames, NoEntryName
from meettasks.fields import pieces, reached
from meettasks.ways import ARRIVED, first_way


class Use:
    """A use that can be done at a value: its name, and the value behind it."""

    def __init__(self, name, target):
        self.name = name
        self.target = target


def all_uses(thing):
    """By values all uses there, by their names."""
    tables = {**thing.deeds(), **thing.entries()}
    return {value: [Use(name, tables[name][value]) for name in sorted(tables) if value in tables[name]]
            for value in thing.worths()}


def opened_by(thing, entry):
    """The values at which an entry is open; NoEntryName."""
    entries = thing.entries()
    if not isinstance(entry, str) or entry not in entries:
        raise NoEntryName(entry)
    return list(entries[entry])


def all_names(thing):
    """The names of all deeds and entries, ascending."""
    return sorted(list(thing.deeds()) + list(thing.entries()))


def checked_names(names, known):
    if not is_list(names):
        raise BadNames(0)
    wrong = first_bad_word(names, known)
    if wrong is not None:
        raise BadNames(wrong)
    return list(names)


def way_by(uses, start, goals):
    """The first row of uses from a value to one of some values, None if there is none."""
    if start in goals:
        return []
    return first_way(start, lambda value: [(use.name, ARRIVED if use.target in goals else use.target)
                                           for use in uses[value]])


def first_open(thing, entry, names):
    opened = opened_by(thing, entry)
    known = checked_names(names, all_names(thing))
    uses = all_uses(thing)
    return way_by({value: [use for use in uses[value] if use.name in known] for value in uses}, thing.start(), opened)


def shut_pieces(thing, entry):
    """The greatest pieces of shut values that come and lead to one another: the uses within, by values."""
    opened = opened_by(thing, entry)
    uses = all_uses(thing)
    coming = reached([thing.start()], {value: [use.target for use in uses[value]] for value in uses}, {})
    shut = [value for value in thing.worths() if value in coming and value not in opened]
    found = []
    for piece in pieces(shut, uses_within(uses, shut)):
        inner = uses_within(uses, piece)
        if any([inner[value] for value in inner]):
            found.append(inner)
    return found


def uses_within(uses, values):
    return {value: [use for use in uses[value] if use.target in values] for value in values}


def names_within(inner):
    return sorted({use.name for value in inner for use in inner[value]})


def ring_of(inner, names):
    """A ring of uses within a piece, from its first value on, in which each of these names is used."""
    home = list(inner)[0]
    at = home
    ring = []
    for name in names if names else names_within(inner)[:1]:
        if name not in ring:
            sources = [value for value in inner if name in [use.name for use in inner[value]]]
            ring.extend(way_by(inner, at, sources[:1]) + [name])
            at = [use.target for use in inner[sources[0]] if use.name == name][0]
    return ring + way_by(inner, at, [home])


def shut_names(thing, entry, names):
    """NoEntryName, then BadNames: names of all but the entry."""
    opened_by(thing, entry)
    return checked_names(names, [name for name in all_names(thing) if name != entry])


def shut_ring(thing, entry, names):
    known = shut_names(thing, entry, names)
    for inner in shut_pieces(thing, entry):
        if is_within(known, names_within(inner)):
            return way_by(all_uses(thing), thing.start(), list(inner)[:1]), ring_of(inner, known)
    return None


def values_along(thing, start, row):
    """The values behind the uses of a row from a value on; None for any object that is no such row."""
    if not is_list(row):
        return None
    uses = all_uses(thing)
    found = []
    value = start
    for name in row:
        behind = [use.target for use in uses[value] if use.name == name]
        if not behind:
            return None
        value = behind[0]
        found.append(value)
    return found


def is_shut_ring(thing, entry, names, pair):
    opened = opened_by(thing, entry)
    known = shut_names(thing, entry, names)
    if not is_pair(pair):
        return False
    ahead = values_along(thing, thing.start(), pair[0])
    if ahead is None:
        return False
    home = ahead[-1] if ahead else thing.start()
    around = values_along(thing, home, pair[1])
    if not around or around[-1] != home or any([value in opened for value in around]):
        return False
    return is_within(known, pair[1])


def idle_lots(thing, entry):
    lots = [tuple(names_within(inner)) for inner in shut_pieces(thing, entry)]
    greatest = [lot for lot in lots if not any([lot != other and is_within(lot, other) for other in lots])]
    return by_choice(sorted({lot for lot in greatest}))


def helpers_of(thing, entry):
    idle = idle_lots(thing, entry)
    names = [name for name in all_names(thing) if name != entry]
    return least_lots(names, lambda lot: not any([is_within(lot, other) for other in idle]))
