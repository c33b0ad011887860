"""Callers of one thing, by numbers: what each call does, and who goes on by it."""

from meettasks.basics import is_integer
from meettasks.errors import BadNumber


def checked_callers(callers):
    if not is_integer(callers) or callers < 1:
        raise BadNumber(callers)
    return callers


class Desk:
    """A thing and its callers; a stand is a value with rows, a tuple of callers for each entry, ascending."""

    def __init__(self, thing, callers):
        self.callers = callers
        self.led = thing.deeds()
        self.opened = thing.entries()
        self.entries = list(self.opened)
        self.names = sorted(list(self.led) + self.entries)
        self.empty = ((),) * len(self.entries)
        self.done = {}

    def calls_at(self, rows):
        """The calls that can be made, ascending."""
        return [(caller, name) for caller in range(self.callers) if not any([caller in row for row in rows])
                for name in self.names]

    def called(self, value, rows, call):
        """The triple of the value and the rows behind a call, and of those who went on."""
        if (value, rows, call) not in self.done:
            self.done[value, rows, call] = self.do_call(value, list(rows), call)
        return self.done[value, rows, call]

    def do_call(self, value, rows, call):
        caller, name = call
        gone = [caller]
        if name in self.led:
            value = self.led[name][value]
        elif value in self.opened[name]:
            value = self.opened[name][value]
        else:
            at = self.entries.index(name)
            rows[at] = rows[at] + (caller,)
            gone = []
        at = self.served_row(value, rows)
        while at is not None:
            gone.append(rows[at][0])
            rows[at] = rows[at][1:]
            value = self.opened[self.entries[at]][value]
            at = self.served_row(value, rows)
        return value, tuple(rows), tuple(gone)

    def served_row(self, value, rows):
        """The first entry that is open and has a row, by its number."""
        for at, entry in enumerate(self.entries):
            if rows[at] and value in self.opened[entry]:
                return at
        return None
