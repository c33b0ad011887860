"""Guarded things: values, deeds that lead them, entries that are open at some."""

from meettasks.basics import is_list, is_word
from meettasks.errors import BadDeeds, BadEntries, BadStart, BadValues


def check_values(values):
    if not is_list(values) or not values:
        raise BadValues(0)
    seen = set()
    for index, value in enumerate(values):
        if not is_word(value) or value in seen:
            raise BadValues(index)
        seen.add(value)


def is_value(thing, values):
    return isinstance(thing, str) and thing in values


def leads_values(table, values):
    if not isinstance(table, dict):
        return False
    return all([is_value(value, values) and is_value(table[value], values) for value in table])


def check_deeds(deeds, values):
    if not isinstance(deeds, dict):
        raise BadDeeds(None)
    for name in deeds:
        if not is_word(name) or not leads_values(deeds[name], values) or len(deeds[name]) != len(values):
            raise BadDeeds(name)


def check_entries(entries, values, deeds):
    if not isinstance(entries, dict):
        raise BadEntries(None)
    for name in entries:
        if not is_word(name) or name in deeds or not leads_values(entries[name], values):
            raise BadEntries(name)


def ordered_tables(tables, values):
    return {name: {value: tables[name][value] for value in values if value in tables[name]}
            for name in sorted(tables)}


class Thing:
    """A guarded thing; it does not change."""

    def __init__(self, values, start, deeds, entries):
        check_values(values)
        if not is_value(start, values):
            raise BadStart(start)
        check_deeds(deeds, values)
        check_entries(entries, values, deeds)
        self._values = list(values)
        self._first = start
        self._led = ordered_tables(deeds, values)
        self._let = ordered_tables(entries, values)

    def __eq__(self, other):
        return (isinstance(other, Thing) and self._values == other._values and self._first == other._first
                and self._led == other._led and self._let == other._let)

    def worths(self):
        return list(self._values)

    def start(self):
        return self._first

    def deeds(self):
        return ordered_tables(self._led, self._values)

    def entries(self):
        return ordered_tables(self._let, self._values)
