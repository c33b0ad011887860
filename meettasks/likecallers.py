"""Which callers can tell servers apart, and which servers can stand for others."""

from meettasks.basics import all_lots
from meettasks.callers import Caller
from meettasks.errors import UnlikeEntries
from meettasks.outlots import outside_of
from meettasks.ways import ARRIVED, first_way


def checked_both(one, other):
    """What a caller meets of both; Restless, then UnlikeEntries."""
    first = outside_of(one)
    second = outside_of(other)
    if first.entries != second.entries:
        raise UnlikeEntries()
    return first, second


def first_row_where(first, second, parts):
    """The first row behind which the lots of stands of both, one at least not empty, are parted by a test, or None."""

    def ways(place):
        found = []
        for entry in first.entries:
            target = (first.behind(place[0], entry), second.behind(place[1], entry))
            if target[0] or target[1]:
                found.append((entry, ARRIVED if parts(target[0], target[1]) else target))
        return found

    start = (first.first, second.first)
    return [] if parts(start[0], start[1]) else first_way(start, ways)


def may_part(one, other):
    first, second = checked_both(one, other)
    return first_row_where(first, second, lambda lot, there: not lot or not there)


def must_part(one, other):
    first, second = checked_both(one, other)
    row = first_row_where(first, second, lambda lot, there: first.left_at(lot) != second.left_at(there))
    if row is None:
        return None
    here, there = first.along(row), second.along(row)
    lots = [lot for lot in all_lots(first.entries) if first.can_leave(here, lot) != second.can_leave(there, lot)]
    return tuple(row), lots[0]


def caller_apart(one, other):
    pair = must_part(one, other)
    if pair is None:
        return None
    row, lot = pair
    states = [({entry: at + 1}, False) for at, entry in enumerate(row)]
    states.append(({entry: len(row) + 1 for entry in lot}, True))
    return Caller(states + [({}, False)] if lot else states)


def worse_pair(newer, elder):
    first, second = checked_both(newer, elder)

    def is_worse(lot, there):
        return not all([second.can_leave(there, greatest) for greatest in first.left_at(lot)])

    row = first_row_where(first, second, is_worse)
    if row is None:
        return None
    here, there = first.along(row), second.along(row)
    lots = [lot for lot in all_lots(first.entries)
            if first.can_leave(here, lot) and not second.can_leave(there, lot)]
    return tuple(row), lots[0]


def can_stand_for(newer, elder):
    return worse_pair(newer, elder) is None
