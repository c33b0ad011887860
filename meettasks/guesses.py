"""What happened in the gaps of a log, surely or perhaps, and where tasks and things are behind it."""

from meettasks.courses import place_in
from meettasks.eventspots import led_all, members
from meettasks.logforms import checked_event, checked_gap, checked_log
from meettasks.logspots import ANY, log_spots
from meettasks.logways import first_run, log_ways
from meettasks.programs import known_task
from meettasks.strikes import thing_number


def happened_runs(program, log, number, event):
    lines = checked_log(log)
    gap = checked_gap(lines, number)
    told = checked_event(event)
    ways = log_ways(program)
    last = ways.last_stage()
    behind = ways.ahead_of_lines(last, lines[gap + 1:])
    many = lines[gap][1]
    found = []
    for stage in (ways.ahead_with(behind, many, told), ways.ahead_of_gap(behind, many, ("but", told))[-1]):
        found.append(first_run(ways, ways.ahead_of_lines(stage, lines[:gap]), last))
    return found[0], found[1]


def happened(program, log, number, event):
    having, lacking = happened_runs(program, log, number, event)
    if having is None:
        return None if lacking is None else "never"
    return "sure" if lacking is None else "open"


class Gap:
    """A gap of a log: the lot of spots ahead of it, and for each number of its events the lot from which, behind so
    many, the lines behind it can come."""

    def __init__(self, program, log, number):
        lines = checked_log(log)
        gap = checked_gap(lines, number)
        self.places = log_spots(program)
        self.many = lines[gap][1]
        self.ahead = self.places.lots_along(lines[:gap])[-1]
        ways = log_ways(program)
        behind = ways.ahead_of_lines(ways.last_stage(), lines[gap + 1:])
        self.behind = ways.fitting_lot(behind)
        self.inner = [ways.fitting_lot(stage) for stage in ways.ahead_of_gap(behind, self.many, ANY)]

    def does_fit(self, test):
        """Whether the log fits some run of whose events in the gap a test lets all."""
        return self.places.behind_gap(self.ahead, self.many, test) & self.behind != 0

    def stretches(self):
        """The pairs of lots right ahead of an event in the gap, and right behind it, from which the log can fit."""
        if self.many is None:
            return [(self.places.behind_gap(self.ahead, None, ANY), self.inner[0])]
        found = []
        lot = self.ahead
        for left in reversed(range(self.many)):
            found.append((lot, self.inner[left]))
            lot = self.places.behind_event(lot, ANY)
        return found

    def possible(self):
        """The events that can have happened in it, ascending."""
        found = set()
        view = self.places.view
        for ahead, behind in self.stretches():
            for at in members(led_all(view.free, ahead)):
                for event, target in view.seen[at]:
                    if target & behind:
                        found.add(event)
        return sorted(found)


def sure_lines(program, log, number):
    gap = Gap(program, log, number)
    return [event for event in gap.possible() if not gap.does_fit(("but", event))]


def possible_lines(program, log, number):
    return Gap(program, log, number).possible()


def stands_after(program, log):
    """The stands at which a program can be behind a log."""
    places = log_spots(program)
    stands = places.spots.graph.stands
    return [stands[at] for at in places.stands_in(places.lots_along(checked_log(log))[-1])]


def places_behind(program, log, task):
    stands = stands_after(program, log)
    known_task(program, task)
    plan = log_spots(program).spots.graph.plan
    found = {place_in(plan, stand, plan.number[task]): True for stand in stands}
    words = [word for word in ("absent", "ended") if word in found]
    return words + sorted([place for place in found if not isinstance(place, str)])


def values_behind(program, log, thing):
    stands = stands_after(program, log)
    number = thing_number(log_spots(program).spots.graph, thing)
    found = {stand.levels[number]: True for stand in stands}
    return [value for value in program.things()[thing].worths() if value in found]
