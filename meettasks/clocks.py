"""Which job does a unit in which moment."""


class Turn:
    """A job as it comes again and again: whose turn it is goes by ranks, one for each number of units done."""

    def __init__(self, job, moments, ranks):
        self.job = job
        self.moments = moments
        self.ranks = ranks
        self.alike = alike_behind(ranks)
        self.number = 0
        self.units = 0

    def is_done(self):
        return self.number == len(self.moments)

    def coming(self):
        """The moment of its first coming that is not done."""
        return self.moments[self.number]

    def rank(self):
        return self.ranks[self.units]

    def many_alike(self):
        """How many units it can do, one behind another, its rank staying the same."""
        return self.alike[self.units]

    def do_units(self, many):
        """Does some units of its first coming that is not done, and tells which these are."""
        found = [(self.job, self.number)] * many
        self.units += many
        if self.units == len(self.ranks):
            self.units = 0
            self.number += 1
        return found


def alike_behind(ranks):
    """By units done how many of the next ones have one rank."""
    found = [1] * len(ranks)
    for units in reversed(range(len(ranks) - 1)):
        if ranks[units] == ranks[units + 1]:
            found[units] = found[units + 1] + 1
    return found


def ranks_of(jobs, job):
    """By units done the priority that a job has then, and whether it is inside a thing."""
    own = jobs.jobs()[job][0]
    found = []
    for units in range(jobs.cost(job)):
        things = [span.thing for span in jobs.spans[job] if span.is_inside(units)]
        found.append((max([own] + [jobs.ceiling(thing) for thing in things]), 1 if things else 0))
    return found


def units_of(jobs, comings):
    """As done, of comings that were checked."""
    turns = [Turn(job, comings[job], ranks_of(jobs, job)) for job in comings]
    turns = [turn for turn in turns if not turn.is_done()]
    row = []
    while turns:
        there = [turn for turn in turns if turn.coming() <= len(row)]
        # Until another job comes, or the rank is another one, the same job goes on.
        gaps = [turn.coming() - len(row) for turn in turns if turn.coming() > len(row)]
        if there:
            best = max(there, key=lambda turn: turn.rank())
            row.extend(best.do_units(min([best.many_alike()] + gaps)))
            turns = [turn for turn in turns if not turn.is_done()]
        else:
            row.extend([None] * min(gaps))
    return row


def answer_times(comings, row):
    """The answer times of all comings, by the row of units that they do."""
    last = {}
    for moment, unit in enumerate(row):
        if unit is not None:
            last[unit] = moment
    return {job: [last[job, number] + 1 - moment for number, moment in enumerate(comings[job])] for job in comings}
