"""An own small machine for tests (points 74 and 75): rows done one by one, as the document's words tell them."""

import copy

SILENT = ("set", "unless", "go", "free", "over")


class Machine:
    """Code with a stand of it; done(step) is another one behind the step."""

    def __init__(self, code):
        self.names = code.tasks()
        self.rows = {task: code.rows(task) for task in self.names}
        self.things = code.things()
        self.place = {task: None for task in self.names}
        self.ended = {task: False for task in self.names}
        self.how = {task: "ready" for task in self.names}
        self.flags = {task: set() for task in self.names}
        self.held = {task: [] for task in self.names}
        self.nests = {task: [] for task in self.names}
        self.queues = {}
        self.values = {name: self.things[name].start() for name in self.things}
        self.events = []
        self.moved = set()
        self.came = []
        self.steps = []
        self.move("main", 0)
        self.settle()

    # What there is.

    def is_there(self, task):
        return self.place[task] is not None and not self.ended[task]

    def row(self, task):
        return self.rows[task][self.place[task]]

    def begun_by(self, tasks):
        """These tasks and all that they began, at any depth."""
        found = []
        coming = list(tasks)
        while coming:
            task = coming.pop()
            if task not in found:
                found.append(task)
                coming += [one for row, _ in self.rows[task] if row[0] == "nest" for one in row[1]]
        return [task for task in self.names if task in found]

    def queue(self, kind, owner, entry):
        return self.queues.setdefault((kind, owner, entry), [])

    def key(self):
        return (tuple((task, self.place[task] if self.is_there(task) else None, self.ended[task], self.how[task],
                       tuple(sorted(self.flags[task])), tuple(self.held[task]), tuple(self.nests[task]))
                      for task in self.names),
                tuple(sorted((key, tuple(row)) for key, row in self.queues.items() if row)),
                tuple(sorted(self.values.items())))

    # What is done.

    def move(self, task, place):
        self.place[task] = place
        self.how[task] = "ready"
        self.moved.add(task)

    def settle(self):
        """Silent rows that are on, always of the first task that was moved, as far as it comes."""
        while self.moved:
            task = next(one for one in self.names if one in self.moved)
            self.moved.discard(task)
            self.came.append((task, self.place[task]))
            while self.is_there(task) and self.row(task)[1]:
                self.pass_row(task)
                if self.is_there(task):
                    self.came.append((task, self.place[task]))

    def pass_row(self, task):
        row = self.row(task)[0]
        at = self.place[task]
        if row[0] == "set":
            (self.flags[task].add if row[2] else self.flags[task].discard)(row[1])
            self.place[task] = at + 1
        elif row[0] == "unless":
            self.place[task] = at + 1 if row[1] in self.flags[task] else row[2]
        elif row[0] == "go":
            self.place[task] = row[1]
        elif row[0] == "free":
            self.place[task] = at + 1
            if self.held[task]:
                caller = self.held[task].pop()
                if caller is not None:
                    self.events.append(("apart", caller, task, self.row(caller)[0][2]))
                    self.move(caller, self.place[caller] + 1)
        else:
            self.end(task)

    def break_call(self, caller):
        row = self.row(caller)[0]
        self.events.append(("broken", caller, row[1], row[2]))
        self.move(caller, row[3])

    def end(self, task):
        self.ended[task] = True
        self.how[task] = "ready"
        self.moved.discard(task)
        self.flags[task] = set()
        self.nests[task] = []
        self.events.append(("ended", task))
        held, self.held[task] = self.held[task], []
        for caller in held:
            if caller is not None:
                self.break_call(caller)
        for key in sorted(key for key in self.queues if key[:2] == ("task", task)):
            callers, self.queues[key] = self.queues[key], []
            for caller in callers:
                self.break_call(caller)

    def end_all(self, tasks):
        tasks = [task for task in self.names if task in tasks and self.is_there(task)]
        for task in tasks:
            for row in self.queues.values():
                if task in row:
                    row.remove(task)
            for other in self.names:
                self.held[other] = [None if one == task else one for one in self.held[other]]
            self.how[task] = "ready"
        for task in tasks:
            self.end(task)

    def serve(self, name):
        thing = self.things[name]
        for entry in sorted(thing.entries()):
            row = self.queue("thing", name, entry)
            if row and self.values[name] in thing.entries()[entry]:
                self.go_on_at(row.pop(0), name, entry)
                return self.serve(name)

    def go_on_at(self, task, name, entry):
        self.values[name] = self.things[name].entries()[entry][self.values[name]]
        self.events.append(("served", task, name, entry))
        self.move(task, self.place[task] + 1)

    # Steps.

    def goes_to_over(self, task, place):
        seen = []
        while self.rows[task][place][0][0] == "go" and place not in seen:
            seen.append(place)
            place = self.rows[task][place][0][1]
        return self.rows[task][place][0][0] == "over"

    def at_end_offer(self, task):
        row = self.row(task)[0] if self.is_there(task) else ("none",)
        return row[0] == "offer" and row[2] == ("end",)

    def is_ready(self, task):
        if not self.is_there(task) or self.at_end_offer(task):
            return True
        return (self.row(task)[0][0] == "close" and self.nests[task] != []
                and self.goes_to_over(task, self.place[task] + 1))

    def let_of(self, task):
        if not self.is_there(task) or self.how[task] != "ready":
            return []
        row, on = self.row(task)
        kind = row[0]
        if kind in SILENT:
            return [(task, "row")]
        if kind == "pick":
            return [(task, "pick", number) for number in range(len(row[1]))]
        if kind == "take":
            return [(task, "take")] if self.queue("task", task, row[1]) else []
        if kind == "offer":
            found = [(task, "arm", number) for number, (flag, entry, _) in enumerate(row[1])
                     if (flag is None or flag in self.flags[task]) and self.queue("task", task, entry)]
            return found or ([(task, "else")] if row[2] and row[2][0] == "else" else [])
        if kind == "nest":
            return [] if any(self.is_there(one) for one in row[1]) else [(task, "begin")]
        if kind == "close":
            return self.let_close(task)
        return [(task, kind)]

    def let_close(self, task):
        if not self.nests[task]:
            return [(task, "closes")]
        below = self.begun_by(self.rows[task][self.nests[task][-1]][0][1])
        if not any(self.is_there(one) for one in below):
            return [(task, "closes")]
        if all(self.is_ready(one) for one in below) and any(self.at_end_offer(one) for one in below):
            return [(task, "ends")]
        return []

    def let(self):
        return [step for task in self.names for step in self.let_of(task)]

    def done(self, step):
        further = copy.copy(self)
        for name in ("place", "ended", "how", "values"):
            setattr(further, name, dict(getattr(self, name)))
        further.flags = {task: set(self.flags[task]) for task in self.names}
        for name in ("held", "nests", "queues"):
            setattr(further, name, {key: list(row) for key, row in getattr(self, name).items()})
        further.events, further.moved, further.came = list(self.events), set(), list(self.came)
        further.steps = self.steps + [step]
        further.do(step)
        further.settle()
        return further

    def do(self, step):
        task, kind = step[:2]
        row, at = self.row(task)[0], self.place[task]
        if kind == "note":
            self.events.append(("note", task, row[1]))
            self.move(task, at + 1)
        elif kind == "pick":
            self.move(task, row[1][step[2]])
        elif kind == "row":
            self.pass_row(task)
            if self.is_there(task):
                self.move(task, self.place[task])
        elif kind == "call":
            if self.ended[row[1]]:
                self.break_call(task)
            else:
                self.queue("task", row[1], row[2]).append(task)
                self.how[task] = "calling"
        elif kind in ("take", "arm"):
            entry, place = (row[1], at + 1) if kind == "take" else row[1][step[2]][1:]
            caller = self.queue("task", task, entry).pop(0)
            self.how[caller] = "met"
            self.held[task].append(caller)
            self.events.append(("meets", caller, task, entry))
            self.move(task, place)
        elif kind == "else":
            self.move(task, row[2][1])
        elif kind == "use":
            self.values[row[1]] = self.things[row[1]].deeds()[row[2]][self.values[row[1]]]
            self.move(task, at + 1)
            self.serve(row[1])
        elif kind == "wait":
            self.do_wait(task, row)
        elif kind == "abort":
            if self.is_there(row[1]):
                self.end_all(self.begun_by([row[1]]))
            if self.is_there(task):
                self.move(task, at + 1)
        else:
            self.do_nest(task, kind, row, at)

    def do_wait(self, task, row):
        if self.values[row[1]] in self.things[row[1]].entries()[row[2]]:
            self.go_on_at(task, row[1], row[2])
        else:
            self.queue("thing", row[1], row[2]).append(task)
            self.how[task] = "waiting"
        self.serve(row[1])

    def do_nest(self, task, kind, row, at):
        if kind == "begin":
            for one in row[1]:
                self.ended[one] = False
                self.flags[one], self.held[one], self.nests[one] = set(), [], []
                self.move(one, 0)
            self.nests[task] = [one for one in self.nests[task] if one != at] + [at]
            self.move(task, at + 1)
        elif kind == "closes":
            self.nests[task] = self.nests[task][:-1]
            self.move(task, at + 1)
        else:
            below = self.begun_by(self.rows[task][self.nests[task][-1]][0][1])
            self.end_all([one for one in below if self.at_end_offer(one)])


class MachineWorld:
    """All stands in the order of first orders, with where steps lead; None if there are more than most."""

    def __init__(self, code, most):
        start = Machine(code)
        self.runs = [start]
        self.numbers = {start.key(): 0}
        self.goes = []
        self.edges = []
        at = 0
        while at < len(self.runs) and len(self.runs) <= most:
            run = self.runs[at]
            ways = {}
            for step in sorted(run.let()):
                further = run.done(step)
                key = further.key()
                if key not in self.numbers:
                    self.numbers[key] = len(self.runs)
                    self.runs.append(further)
                ways[step] = (self.numbers[key], tuple(further.events[len(run.events):]), further.came[len(run.came):])
            self.goes.append([(step, ways[step][0]) for step in run.let()])
            self.edges.append([(step,) + ways[step] for step in run.let()])
            at += 1
        self.is_whole = at == len(self.runs)
