"""At which spots a program can be behind the lines of a log: by lots of spots, line by line.

A test of events is ("any", None), ("just", event) or ("but", event).
"""

from meettasks.eventspots import full_view, led_all, members

ANY = ("any", None)


def does_pass(test, event):
    """Whether a test lets an event."""
    kind, told = test
    return kind == "any" or (event == told) == (kind == "just")


class LogSpots:
    """The spots of a program as lots; where lines lead from a lot is kept."""

    def __init__(self, program):
        self.view = full_view(program)
        self.spots = self.view.spots
        self.start = 1 << self.spots.first
        self._events = {}
        self._lines = {}

    def behind_event(self, lot, test):
        """Behind one event that a test lets, steps without events being done ahead of it."""
        if (lot, test) not in self._events:
            found = 0
            for at in members(led_all(self.view.free, lot)):
                for event, target in self.view.seen[at]:
                    if does_pass(test, event):
                        found |= target
            self._events[lot, test] = found
        return self._events[lot, test]

    def behind_gap(self, lot, many, test):
        """Behind so many events that a test lets; any number of them if None is told."""
        if many is not None:
            return self.behind_many(lot, many, test)
        further = self.behind_event(lot, test)
        while further | lot != lot:
            lot |= further
            further = self.behind_event(lot, test)
        return lot

    def behind_many(self, lot, many, test):
        """Lots come back in a ring at last: the rest of it is all that has to be gone."""
        found = []
        places = {}
        while len(found) < many and lot not in places:
            places[lot] = len(found)
            found.append(lot)
            lot = self.behind_event(lot, test)
        if lot not in places:
            return lot
        around = len(found) - places[lot]
        return found[places[lot] + (many - len(found)) % around]

    def behind_line(self, lot, line):
        if (lot, line) not in self._lines:
            if line[0] == "gap":
                self._lines[lot, line] = self.behind_gap(lot, line[1], ANY)
            else:
                self._lines[lot, line] = self.behind_event(lot, ("just", line))
        return self._lines[lot, line]

    def lots_along(self, lines):
        """The lots ahead of all lines, behind the first, and so on."""
        found = [self.start]
        for line in lines:
            found.append(self.behind_line(found[-1], line))
        return found

    def stands_in(self, lot):
        """The numbers of the stands of a lot, ascending."""
        return sorted({self.spots.spots[at][0] for at in members(lot)})


def log_spots(program):
    if "log spots" not in program.kept:
        program.kept["log spots"] = LogSpots(program)
    return program.kept["log spots"]
