"""Knots: tasks that wait for one another by what their texts can still do."""

from meettasks.basics import is_list
from meettasks.plans import plan_of
from meettasks.rests import rest_of
from meettasks.steps import arms_now, is_ready_to_end, steps_of


class Needs:
    """What a knot has to have with a task: all of alls, and of each lot of somes one."""

    def __init__(self, alls, somes):
        self.alls = alls
        self.somes = somes

    def are_met(self, lot):
        return all([task in lot for task in self.alls]) and all(
            [any([task in lot for task in some]) for some in self.somes])


class Looking:
    """A stand, with the rests of all tasks that are there."""

    def __init__(self, plan, stand):
        self.plan = plan
        self.stand = stand
        self.rests = {task: rest_of(plan, stand, task) for task in range(len(plan.names)) if stand.places[task] >= 0}

    def callers(self, task, entries):
        """All in whose rest a call of one of these entries of the task stands."""
        name = self.plan.names[task]
        return [one for one in self.rests
                if any([deed[0] == "call" and deed[1] == name and deed[2] in entries for deed in self.rests[one]])]

    def users(self, thing):
        """All in whose rest a use of the thing, or a wait for it, stands."""
        return [one for one in self.rests
                if any([deed[0] in ("use", "wait") and deed[1] == thing for deed in self.rests[one]])]

    def aborters(self, task):
        """All in whose rest an abort of the task, or of one within whose nests it began, stands."""
        names = []
        while task >= 0:
            names.append(self.plan.names[task])
            task = self.plan.masters[task]
        return [one for one in self.rests
                if any([deed[0] == "abort" and deed[1] in names for deed in self.rests[one]])]

    def enders(self, task):
        """All of the nest that begins the task, and that these began, that are not ready to end."""
        place = self.plan.source.master(self.plan.names[task])
        if place is None:
            return []
        nest = [one for one in range(len(self.plan.names))
                if self.plan.source.master(self.plan.names[one]) == place]
        return [one for one in self.rests
                if (one in nest or any([one in self.plan.below[other] for other in nest]))
                and not is_ready_to_end(self.plan, self.stand, one)]

    def needs(self, task):
        """What a knot has to have with a task that waits."""
        aborters = self.aborters(task)
        spot = self.plan.spots[task][self.stand.places[task]]
        if spot.kind == "call":
            # Whoever holds it is the one that it called.
            return Needs(aborters + [spot.what[0]], [])
        if spot.kind == "wait":
            return Needs(aborters + self.users(self.plan.thing_names[spot.what[0]]), [])
        if spot.kind == "closing":
            return Needs(aborters, [[one for one in spot.what.begun if self.stand.places[one] >= 0]])
        if spot.kind == "take":
            return Needs(aborters + self.callers(task, [spot.what[1]]), [])
        arms, other = spot.what
        entries = [arms[at][2] for at in arms_now(self.stand, task, spot)]
        return Needs(aborters + self.callers(task, entries), [self.enders(task)] if other == "end" else [])


def needs_at(run):
    """The needs of all tasks that wait at a run's stand, by their numbers."""
    plan = plan_of(run.course.owner)
    stand = run.course.stand
    looking = Looking(plan, stand)
    return {task: looking.needs(task) for task in looking.rests if not steps_of(plan, stand, task)}


def greatest_knot(run):
    needs = needs_at(run)
    lot = list(needs)
    less = [task for task in lot if needs[task].are_met(lot)]
    while len(less) < len(lot):
        lot = less
        less = [task for task in lot if needs[task].are_met(lot)]
    tasks = run.program().tasks()
    return sorted([tasks[task] for task in lot])


def is_knot(run, thing):
    tasks = run.program().tasks()
    if not is_list(thing) or not thing or not all([isinstance(task, str) and task in tasks for task in thing]):
        return False
    if not all([thing[at - 1] < thing[at] for at in range(1, len(thing))]):
        return False
    needs = needs_at(run)
    lot = [tasks.index(task) for task in thing]
    return all([task in needs and needs[task].are_met(lot) for task in lot])
