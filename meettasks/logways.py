"""The first runs that fit logs: by how few steps more do from each spot, line by line from the last one on.

Tests of events are those of logspots.py.
"""

from heapq import heappop, heappush

from meettasks.eventspots import event_spots
from meettasks.logspots import ANY, does_pass

FAR = -1


class Stage:
    """Where one can be in a log.

    Ways are pairs (test, stage): an event that the test lets leads there. Loop is a test of events by which one stays,
    skip a stage to which one comes without any, or None. How few steps do from each spot on till all lines have come
    is its number in more (FAR if none do) and least, together: so rows that differ by a number alone are the same.
    """

    def __init__(self, ways, loop, skip):
        self.ways = ways
        self.loop = loop
        self.skip = skip
        self.more = ()
        self.least = 0


def least_of(rows):
    """The least numbers of steps of rows (more, least) with one number for each spot, as such a row."""
    if len(rows) == 1:
        return rows[0]
    whole = [[FAR if one == FAR else one + least for one in more] for more, least in rows]
    return as_row([min([one for one in row if one != FAR], default=FAR) for row in zip(*whole)])


def as_row(numbers):
    """Numbers as a row (more, least), the least one being told apart."""
    least = min([one for one in numbers if one != FAR], default=0)
    return tuple([FAR if one == FAR else one - least for one in numbers]), least


class LogWays:
    """The spots of a program with what leads to each; how far it is by one event more is kept."""

    def __init__(self, program):
        self.spots = event_spots(program)
        many = len(self.spots.spots)
        self.costs = [0 if left else 1 for _, left in self.spots.spots]
        self.silent_sources = [[] for _ in range(many)]
        self.event_sources = [[] for _ in range(many)]
        for at in range(many):
            for target in self.spots.silent[at]:
                self.silent_sources[target].append(at)
            for event, target in self.spots.coming[at]:
                self.event_sources[target].append((event, at))
        self._kept = {}

    def spread(self, numbers, loop):
        """The least numbers if steps without events, and events that a test (or None) lets, may come ahead."""
        found = list(numbers)
        coming = []
        for at, number in enumerate(found):
            if number != FAR:
                heappush(coming, (number, at))
        while coming:
            number, at = heappop(coming)
            if number == found[at]:
                sources = [(one, 1) for one in self.silent_sources[at]]
                if loop is not None:
                    sources.extend([(one, self.costs[one]) for event, one in self.event_sources[at]
                                    if does_pass(loop, event)])
                for one, cost in sources:
                    if found[one] == FAR or number + cost < found[one]:
                        found[one] = number + cost
                        heappush(coming, (number + cost, one))
        return found

    def ahead_of(self, test, more):
        """The row ahead of one event that a test lets, more being the numbers behind it."""
        if (test, more) not in self._kept:
            numbers = [FAR] * len(more)
            for target, number in enumerate(more):
                if number != FAR:
                    for event, at in self.event_sources[target]:
                        if does_pass(test, event) and (numbers[at] == FAR or number + self.costs[at] < numbers[at]):
                            numbers[at] = number + self.costs[at]
            self._kept[test, more] = as_row(self.spread(numbers, None))
        return self._kept[test, more]

    def fill(self, stage):
        """Puts the numbers of a stage, those behind it having theirs."""
        rows = []
        for test, behind in stage.ways:
            more, least = self.ahead_of(test, behind.more)
            rows.append((more, least + behind.least))
        if stage.skip is not None:
            rows.append((stage.skip.more, stage.skip.least))
        if not rows:
            rows.append(((FAR,) * len(self.spots.spots), 0))
        stage.more, stage.least = least_of(rows)
        if stage.loop is not None:
            stage.more, least = as_row(self.spread(stage.more, stage.loop))
            stage.least += least

    def stage(self, ways, loop, skip):
        found = Stage(ways, loop, skip)
        self.fill(found)
        return found

    def last_stage(self):
        """All lines have come: no step more, wherever one is."""
        found = Stage([], None, None)
        found.more = (0,) * len(self.spots.spots)
        return found

    def ahead_of_gap(self, behind, many, test):
        """The stages of a gap of so many events that a test lets, the one behind all of them first."""
        if many is None:
            return [self.stage([], test, behind)]
        found = [behind]
        for _ in range(many):
            found.append(self.stage([(test, found[-1])], None, None))
        return found

    def ahead_of_line(self, behind, line):
        if line[0] == "gap":
            return self.ahead_of_gap(behind, line[1], ANY)[-1]
        return self.stage([(("just", line), behind)], None, None)

    def ahead_of_lines(self, behind, lines):
        for line in reversed(lines):
            behind = self.ahead_of_line(behind, line)
        return behind

    def ahead_with(self, behind, many, event):
        """The stage of a gap in which an event is lost."""
        just = ("just", event)
        if many is None:
            return self.stage([(just, self.ahead_of_gap(behind, None, ANY)[0])], ANY, None)
        lacking = self.stage([], None, None)
        for stage in self.ahead_of_gap(behind, many, ANY)[:-1]:
            lacking = self.stage([(just, stage), (ANY, lacking)], None, None)
        return lacking

    def fitting_lot(self, stage):
        """The lot of all spots at which some steps do."""
        return sum([1 << at for at, number in enumerate(stage.more) if number != FAR])

    def more_steps(self, stage, spot):
        """How few steps more do at a spot, None if no steps do."""
        number = stage.more[self.spots.number[spot]]
        return None if number == FAR else number + stage.least


def log_ways(program):
    if "log ways" not in program.kept:
        program.kept["log ways"] = LogWays(program)
    return program.kept["log ways"]


def freed(stages):
    """These stages, by themselves as keys, and those to which they come by nothing."""
    found = {}
    for stage in stages:
        while stage is not None:
            found[stage] = True
            stage = stage.skip
    return found


def stages_behind(stages, last, event):
    """The stages behind an event; where all lines have come nothing more is asked."""
    found = {}
    for stage in freed(stages):
        if stage == last:
            found[stage] = True
        if stage.loop is not None and does_pass(stage.loop, event):
            found[stage] = True
        for test, behind in stage.ways:
            if does_pass(test, event):
                found[behind] = True
    return found


def stages_after(stages, last, edge):
    """The stages behind all events of a step, with those to which one comes by nothing from them."""
    for event in edge.told:
        stages = stages_behind(stages, last, event)
    return freed(stages)


def first_run(ways, start, last):
    """The first row of steps, as run.let() orders them, that comes from a stage to the last one; None if none does."""
    spots = ways.spots
    stand, left = spots.spots[spots.first]
    more = ways.more_steps(start, (stand, left))
    if more is None:
        return None
    stages = {start: True}
    for event in left:
        stages = stages_behind(stages, last, event)
    steps = []
    while more > 0:
        more -= 1
        for edge in spots.graph.edges[stand]:
            behind = stages_after(stages, last, edge)
            # From the others it takes more steps.
            nearest = [stage for stage in behind if ways.more_steps(stage, (edge.target, ())) == more]
            if nearest:
                break
        steps.append(edge.step)
        stand = edge.target
        stages = {stage: True for stage in nearest}
    return steps
