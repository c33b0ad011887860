"""Logs of single tasks, nobody knowing how they go together: a run that fits them all, and what was ahead of what."""

from meettasks.basics import is_integer, is_list, is_pair
from meettasks.errors import BadApart, BadLine
from meettasks.fields import reached
from meettasks.graphs import graph_of
from meettasks.logforms import as_event
from meettasks.steps import first_stand
from meettasks.ways import way_to


def checked_apart(program, apart):
    """The events by tasks, as they are told; BadApart for the first key against it."""
    if not isinstance(apart, dict):
        raise BadApart(None)
    tasks = program.tasks()
    found = {}
    for task in apart:
        if not isinstance(task, str) or task not in tasks or not is_list(apart[task]):
            raise BadApart(task)
        events = [as_event(thing) for thing in apart[task]]
        if not all([event is not None and event[1] == task for event in events]):
            raise BadApart(task)
        found[task] = events
    return found


class Apart:
    """Stands with how many of its lines have come of each task, as they come one behind another."""

    def __init__(self, program, lines):
        self.graph = graph_of(program)
        self.tasks = list(lines)
        self.lines = [lines[task] for task in self.tasks]
        self.whole = tuple([len(row) for row in self.lines])

    def counted(self, counts, event):
        """The counts behind an event; None if another line would have to come."""
        if event[1] not in self.tasks:
            return counts
        at = self.tasks.index(event[1])
        if counts[at] == self.whole[at]:
            return counts
        if self.lines[at][counts[at]] != event:
            return None
        return counts[:at] + (counts[at] + 1,) + counts[at + 1:]

    def counts_along(self, counts, events):
        """The counts ahead of the first event, behind it, and so on; up to None if another line would have to come."""
        found = [counts]
        for event in events:
            found.append(self.counted(found[-1], event))
            if found[-1] is None:
                break
        return found

    def start(self):
        """The place behind what happens ahead of all steps, counts None if a list is against it."""
        return 0, self.counts_along((0,) * len(self.whole), first_stand(self.graph.plan).told)[-1]

    def ways(self, place):
        """The triples (step, counts along it, place behind it) of steps from a place on that no list is against."""
        at, counts = place
        if counts is None or counts == self.whole:
            return []
        found = []
        for edge in self.graph.edges[at]:
            row = self.counts_along(counts, edge.told)
            if row[-1] is not None:
                found.append((edge.step, row, (edge.target, row[-1])))
        return found


def fitting_order(program, apart):
    fitting = Apart(program, checked_apart(program, apart))
    parents = {fitting.start(): None}
    coming = [fitting.start()]
    at = 0
    while at < len(coming):
        place = coming[at]
        at += 1
        if place[1] == fitting.whole:
            return way_to(parents, place)
        for step, _, target in fitting.ways(place):
            if target not in parents:
                parents[target] = (place, step)
                coming.append(target)
    return None


def checked_line(lines, thing):
    """A line as a pair of the number of its task and its index; BadLine for any object that is none."""
    if not is_pair(thing) or not isinstance(thing[0], str) or thing[0] not in lines or not is_integer(thing[1]):
        raise BadLine(thing)
    if not 0 <= thing[1] < len(lines[thing[0]]):
        raise BadLine(thing)
    return list(lines).index(thing[0]), thing[1]


def comes_ahead(row, one, other):
    """Whether one line comes along counts, another one not having come yet."""
    for at in range(1, len(row)):
        if row[at - 1][one[0]] == one[1] and row[at][one[0]] == one[1] + 1:
            return row[at - 1][other[0]] <= other[1]
    return False


def rows_that_fit(fitting):
    """The counts along all steps of runs that fit; ahead of all steps no more than one line comes."""
    sources = {}
    steps = []
    coming = [fitting.start()]
    seen = {coming[0]: True}
    while coming:
        place = coming.pop()
        for _, counts, target in fitting.ways(place):
            steps.append((counts, target))
            sources.setdefault(target, []).append(place)
            if target not in seen:
                seen[target] = True
                coming.append(target)
    fit = {}
    whole = [place for place in seen if place[1] == fitting.whole]
    reached(whole, {place: sources.get(place, []) for place in seen}, fit)
    return [counts for counts, target in steps if target in fit]


def ahead_of(program, apart, one, other):
    lines = checked_apart(program, apart)
    first = checked_line(lines, one)
    second = checked_line(lines, other)
    if first == second:
        raise BadLine(other)
    rows = rows_that_fit(Apart(program, lines))
    ahead = any([comes_ahead(row, first, second) for row in rows])
    behind = any([comes_ahead(row, second, first) for row in rows])
    if not ahead:
        return "never" if behind else None
    return "open" if behind else "sure"
