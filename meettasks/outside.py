"""What one caller from outside can meet, and with what it can be left."""

from meettasks.basics import is_list, is_pair
from meettasks.errors import BadLot, BadRow
from meettasks.outlots import outside_of


def as_entry(thing):
    """An entry as it is told, None for any object that is none by its form."""
    if not is_pair(thing) or not isinstance(thing[0], str) or not isinstance(thing[1], str):
        return None
    return thing[0], thing[1]


def checked_row(outside, row):
    if not is_list(row):
        raise BadRow(0)
    found = []
    for index, thing in enumerate(row):
        entry = as_entry(thing)
        if entry not in outside.entries:
            raise BadRow(index)
        found.append(entry)
    return found


def checked_lot(outside, lot):
    """A lot of entries; BadLot for any object that is no ascending list of unlike ones."""
    if not is_list(lot):
        raise BadLot(lot)
    found = [as_entry(thing) for thing in lot]
    if not all([entry in outside.entries for entry in found]):
        raise BadLot(lot)
    if found != sorted(set(found)):
        raise BadLot(lot)
    return found


def entries_of(servers):
    return list(outside_of(servers).entries)


def can_be(servers, row):
    outside = outside_of(servers)
    return len(outside.along(checked_row(outside, row))) > 0


def can_be_left(servers, row, lot):
    outside = outside_of(servers)
    behind = outside.along(checked_row(outside, row))
    return outside.can_leave(behind, checked_lot(outside, lot))


def left_lots(servers, row):
    outside = outside_of(servers)
    return outside.left_at(outside.along(checked_row(outside, row)))
