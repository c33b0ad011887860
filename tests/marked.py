"""Own counts for points 34 to 36: stands with marks, by plain stepping of runs."""

from meettasks.runs import Run
from tests.makers import stand_key


def began(program, task, by, path=None):
    """Whether a task begins, at any depth, by another one, of its nest at a path if this is told."""
    master = program.master(task)
    while master is not None:
        if master[0] == by and path in (None, master[1]):
            return True
        master = program.master(master[0])
    return False


def is_there(run, task):
    return run.how(task) not in ("absent", "ended")


def is_inside(run, task, marks):
    place = run.place(task)
    return any(one == task and len(place) > len(path) and place[:len(path)] == tuple(path) for one, path in marks)


def offers_end(run, task):
    deed = run.program().deed(task, run.place(task))
    return run.how(task) == "ready" and deed[0] == "offer" and deed[2] == ("end",)


def is_barred(run, step, marks):
    program = run.program()
    if step[1] == "abort":
        named = program.deed(step[0], run.place(step[0]))[1]
        ended = [task for task in program.tasks() if task == named or began(program, task, named)]
        return is_there(run, named) and any(is_there(run, task) and is_inside(run, task, marks) for task in ended)
    if step[1] == "ends":
        below = [task for task in program.tasks() if began(program, task, step[0], run.place(step[0]))]
        return any(is_there(run, task) and offers_end(run, task) and is_inside(run, task, marks) for task in below)
    return False


class MarkedWorld:
    """All stands with marks, in the order of first rows of steps (as let() orders these), and where steps lead."""

    def __init__(self, program, marks=()):
        start = Run(program)
        self.runs = [start]
        self.goes = []
        numbers = {stand_key(start): 0}
        for run in self.runs:
            ways = []
            for step in run.let():
                if not is_barred(run, step, marks):
                    further = run.more([step])
                    key = stand_key(further)
                    if key not in numbers:
                        numbers[key] = len(self.runs)
                        self.runs.append(further)
                    ways.append((step, numbers[key]))
            self.goes.append(ways)

    def values(self, at_end=False):
        names = list(self.runs[0].program().things())
        return sorted({tuple(run.value(name) for name in names) for run in self.runs
                       if not at_end or run.how("main") == "ended"})

    def breach(self, sentence, at_end):
        for run in self.runs:
            if not at_end or run.how("main") == "ended":
                if not all(run.value(name) in sentence[name] for name in sentence):
                    return run.steps()
        return None

    def barred_abort(self):
        program = self.runs[0].program()
        for at, run in enumerate(self.runs):
            for task in program.tasks():
                if is_there(run, task) and program.deed(task, run.place(task))[0] == "abort":
                    if not self.can_abort(at, task, run.place(task)):
                        return run.steps(), task
        return None

    def can_abort(self, start, task, place):
        seen, coming = {start}, [start]
        while coming:
            at = coming.pop()
            if self.runs[at].place(task) == place and (task, "abort") in dict(self.goes[at]):
                return True
            for step, target in self.goes[at]:
                if step[0] != task and target not in seen:
                    seen.add(target)
                    coming.append(target)
        return False
