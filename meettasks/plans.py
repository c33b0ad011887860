"""A program made ready for stepping: its bodies as rows of spots, with numbers for tasks, rows and things."""

from meettasks.bodies import entries_in

GOING = ("set", "if", "again", "leave", "go", "apart", "end")


class Spot:
    """Where a task can stand, or what it passes over: goes are the numbers of the spots that it can lead to."""

    def __init__(self, kind, path, what, goes):
        self.kind = kind
        self.path = path
        self.what = what
        self.goes = goes


class Nest:
    """What a nest begins: its tasks, all that begin by them at any depth, and whether the body ends with it."""

    def __init__(self, tasks, below, last):
        self.begun = tasks
        self.below = below
        self.last = last


class Numbers:
    """Tasks, things, rows and what steps write are numbers in it; spots of each task are put to it.

    Of code has_rows is True, and sign stands ahead of things among owners of rows, as tasks may be called like them.
    """

    def __init__(self, names, masters, entries, guarded, has_rows):
        self.has_rows = has_rows
        self.names = names
        self.number = {task: at for at, task in enumerate(names)}
        self.masters = [-1 if masters[task] is None else self.number[masters[task]] for task in names]
        self.below = [tuple([at for at in range(len(names)) if self.is_below(at, task)])
                      for task in range(len(names))]
        self._number_things(guarded)
        self._number_rows(entries, "*" if has_rows else "")
        self._number_parts()
        self.spots = []
        self.firsts = []

    def is_below(self, at, task):
        """Whether a task begins by another one, at any depth."""
        while self.masters[at] >= 0:
            at = self.masters[at]
            if at == task:
                return True
        return False

    def below_nest(self, tasks):
        """The numbers of these tasks and of all that begin by them, ascending."""
        return tuple([at for at in range(len(self.names))
                      if at in tasks or any([at in self.below[task] for task in tasks])])

    def _number_things(self, guarded):
        self.thing_names = list(guarded)
        self.thing_number = {name: at for at, name in enumerate(self.thing_names)}
        self.starts = [guarded[name].start() for name in self.thing_names]
        self.led = [guarded[name].deeds() for name in self.thing_names]
        self.opened = [guarded[name].entries() for name in self.thing_names]

    def _number_rows(self, entries, sign):
        owned = [(task, entry) for task in self.names for entry in entries[task]]
        for at, name in enumerate(self.thing_names):
            owned.extend([(sign + name, entry) for entry in self.opened[at]])
        self.rows = sorted(owned)
        self.row_number = {self.rows[at]: at for at in range(len(self.rows))}
        self.task_rows = [self.rows_of(task) for task in self.names]
        self.thing_rows = [self.rows_of(sign + name) for name in self.thing_names]

    def rows_of(self, owner):
        """The numbers of an owner's rows, entries ascending."""
        return [at for at, row in enumerate(self.rows) if row[0] == owner]

    def _number_parts(self):
        """Numbers for all that steps write and ask, ascending: lots of them are integers, a bit for each."""
        ends = [("end", task) for task in self.names]
        rows = [("row", owner, entry) for owner, entry in self.rows]
        tasks = [("task", task) for task in self.names]
        values = [("value", name) for name in self.thing_names]
        self.parts = sorted(ends + rows + tasks + values)
        bits = {part: 1 << at for at, part in enumerate(self.parts)}
        self.end_bits = [bits[part] for part in ends]
        self.row_bits = [bits[part] for part in rows]
        self.task_bits = [bits[part] for part in tasks]
        self.value_bits = [bits[part] for part in values]

    def parts_in(self, lot):
        return [part for at, part in enumerate(self.parts) if lot >> at & 1]


def masters_in(program):
    """By tasks who begins them, None of main."""
    return {task: None if task == "main" else program.master(task)[0] for task in program.tasks()}


class Plan(Numbers):
    """A program by numbers."""

    def __init__(self, program):
        entries = {task: entries_in(program.body(task)) for task in program.tasks()}
        super().__init__(program.tasks(), masters_in(program), entries, program.things(), False)
        self.source = program
        for task in self.names:
            coder = Coder(self)
            end = coder.new_spot("end", (), None, ())
            self.firsts.append(coder.body(program.body(task), (), end, end))
            self.spots.append(coder.spots)


class Coder:
    """Makes the spots of one task, from the end of its body on; spot 0 is its end."""

    def __init__(self, plan):
        self.plan = plan
        self.spots = []

    def new_spot(self, kind, path, what, goes):
        self.spots.append(Spot(kind, path, what, goes))
        return len(self.spots) - 1

    def body(self, deeds, path, after, out):
        """The spot at which a body begins; after is the one behind it, out the one to which a "leave" leads."""
        for number in reversed(range(len(deeds))):
            after = self.deed(deeds[number], path + (number,), after, out)
        return after

    def deed(self, deed, path, after, out):
        kind = deed[0]
        if kind == "leave":
            return self.new_spot(kind, path, None, (out,))
        if kind == "again":
            spot = self.new_spot(kind, path, None, ())
            here = self.spots[spot]
            here.goes = (self.body(deed[1], path + (0,), spot, after),)
            return spot
        if kind in ("take", "offer"):
            return self.meeting(deed, path, after, out)
        if kind == "nest":
            return self.nest(deed, path, after)
        if kind in ("if", "pick"):
            bodies = deed[2:] if kind == "if" else deed[1]
            goes = [self.body(inner, path + (which,), after, out) for which, inner in enumerate(bodies)]
            return self.new_spot(kind, path, deed[1] if kind == "if" else None, tuple(goes))
        if kind == "call":
            broken = self.body(deed[3], path + (0,), after, out)
            what = (self.plan.number[deed[1]], self.plan.row_number[deed[1], deed[2]], deed[2])
            return self.new_spot(kind, path, what, (after, broken))
        return self.new_spot(kind, path, self.plain(deed), (after,))

    def plain(self, deed):
        """What a deed without bodies is about."""
        plan = self.plan
        if deed[0] == "note":
            return deed[1]
        if deed[0] == "set":
            return deed[1:]
        if deed[0] == "abort":
            return plan.number[deed[1]]
        thing = plan.thing_number[deed[1]]
        if deed[0] == "use":
            return thing, plan.led[thing][deed[2]]
        return thing, plan.opened[thing][deed[2]], plan.row_number[deed[1], deed[2]], deed[2]

    def own_row(self, entry):
        """The number of the row of an entry of the task whose body this is."""
        task = len(self.plan.spots)
        return self.plan.row_number[self.plan.names[task], entry]

    def meeting(self, deed, path, after, out):
        end = self.new_spot("apart", path, None, (after,))
        if deed[0] == "take":
            start = self.body(deed[2], path + (0,), end, None)
            return self.new_spot("take", path, (self.own_row(deed[1]), deed[1]), (start,))
        arms = tuple([(arm[0], self.own_row(arm[1]), arm[1]) for arm in deed[1]])
        goes = [self.body(arm[2], path + (which,), end, None) for which, arm in enumerate(deed[1])]
        other = None if deed[2] is None else deed[2][0]
        if other == "else":
            goes.append(self.body(deed[2][1], path + (len(arms),), after, out))
        return self.new_spot("offer", path, (arms, other), tuple(goes))

    def nest(self, deed, path, after):
        tasks = tuple([self.plan.number[task] for task in deed[1]])
        # Ends of bodies of "if", "pick", "call" and "else" are no spots: what is last in these leads to the end, too.
        nest = Nest(tasks, self.plan.below_nest(tasks), after == 0)
        end = self.new_spot("closing", path, nest, (after,))
        return self.new_spot("nest", path, nest, (self.body(deed[2], path + (0,), end, None),))


def plan_of(program):
    if "plan" not in program.kept:
        program.kept["plan"] = Plan(program)
    return program.kept["plan"]
