"""Own counts for points 82 to 88: all runs of small programs, and all ways in which they fit logs."""

import random

from meettasks.runs import Run


def all_runs(program, most):
    """All runs in the order of choices, steps as let() tells them; None if there are more than most."""
    level = [Run(program)]
    found = []
    while level:
        found += level
        if len(found) > most:
            return None
        level = [run.more([step]) for run in level for step in run.let()]
    return found


def matches(row, lines):
    """All ways in which a row of events is the lines: for each gap the events lost in it."""
    if not lines:
        return [()] if not row else []
    line = lines[0]
    if line[0] != "gap":
        return matches(row[1:], lines[1:]) if row and row[0] == tuple(line) else []
    numbers = [line[1]] if line[1] is not None else range(len(row) + 1)
    return [(tuple(row[:many]),) + rest for many in numbers if many <= len(row)
            for rest in matches(row[many:], lines[1:])]


class Runs:
    """All runs of a program, with how many events each had ahead of its last step."""

    def __init__(self, program, most):
        self.runs = all_runs(program, most)
        if self.runs is not None:
            many = {tuple(run.steps()): len(run.events()) for run in self.runs}
            self.rows = [(run, tuple(run.events()), many[tuple(run.steps()[:-1])] if run.steps() else -1)
                         for run in self.runs]

    def fits(self, lines):
        """The pairs (run, ways) of all runs that fit."""
        found = []
        for run, events, ahead in self.rows:
            ways = [way for many in range(ahead + 1, len(events) + 1) for way in matches(events[:many], lines)]
            if ways:
                found.append((run, ways))
        return found

    def all_events(self):
        return sorted({event for _, events, _ in self.rows for event in events})


def made_up_log(runs, seed):
    """A log of one of the runs, some of its events being lost, now and then a wrong line in it."""
    luck = random.Random(seed)
    events = luck.choice(runs.rows)[1]
    events = list(events[:luck.randint(0, len(events))])
    lines, lost = [], None
    for event in events:
        if luck.random() < 0.4:
            lost = (lost or 0) + 1
            continue
        if lost is not None:
            lines.append(("gap", luck.choice([lost, lost, None])))
            lost = None
        lines.append(event)
    if lost is not None or luck.random() < 0.3:
        lines.append(("gap", luck.choice([lost or 0, None, luck.randint(0, 3)])))
    if lines and luck.random() < 0.25:
        lines[luck.randrange(len(lines))] = luck.choice(runs.all_events() or [("note", "a", "x")])
    return lines


def runs_of(seeds, most=800):
    """Made up programs all of whose runs are few, with these."""
    from tests.makers import made_up
    shapes = ({"many": 2, "most": 2}, {"many": 2, "most": 2, "rich": False}, {"many": 3, "most": 2}, {"many": 3, "most": 1})
    for seed in seeds:
        program = made_up(seed, **shapes[seed % 4])
        runs = Runs(program, most)
        if runs.runs is not None and len(runs.runs) > 2:
            yield program, runs


def first_by_lots(program, lines):
    """The first row of steps that fits, by the lots of places in the log at which one can be: for programs that go on
    for ever, too."""
    def passed(places):
        found = set(places)
        for at in sorted(places):
            while at < len(lines) and lines[at][:2] == ("gap", None):
                at += 1
                found.add(at)
        return frozenset(found)

    def along(places, events):
        """The places behind events, and whether all lines have come at some of them."""
        whole = False
        for event in events:
            places = passed({at + (lines[at] != ("gap", None)) for at in places if at < len(lines)
                             and (lines[at][0] == "gap" or lines[at] == event)})
            whole = whole or len(lines) in places
        return places, whole

    lines = [line for row in lines for line in ([("gap", 1)] * row[1] if row[0] == "gap" and row[1] is not None else [row])]
    run = Run(program)
    places = passed({0})
    if len(lines) in places:
        return []
    places, whole = along(places, run.events())
    if whole:
        return []
    level, seen = [(run, places)], set()
    while level:
        further = []
        for run, places in level:
            for step in run.let():
                more = run.more([step])
                behind, whole = along(places, more.events()[len(run.events()):])
                if whole:
                    return more.steps()
                key = (more.course.stand.key, behind)
                if behind and key not in seen:
                    seen.add(key)
                    further.append((more, behind))
        level = further
    return None
