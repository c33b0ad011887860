"""Doing steps: from a stand to the one behind, with all that happens, is written and is asked on the way."""

from meettasks.plans import GOING

ABSENT = -2
ENDED = -1

NOBODY = -1

READY = 0
IN_ROW = 1
MET = 2


class Stand:
    """All that is so between two steps, by numbers; key tells it by tuples alone.

    Nests are the rows of code that began those that its tasks have not closed; () of programs, where places tell it.
    """

    def __init__(self, places, modes, truths, holds, queues, levels, nests):
        self.places = places
        self.modes = modes
        self.truths = truths
        self.holds = holds
        self.queues = queues
        self.levels = levels
        self.nests = nests
        self.key = (places, modes, truths, holds, queues, levels, nests)


class Doing:
    """A stand that is being changed by one step; of held callers None is NOBODY."""

    def __init__(self, plan, stand):
        self.plan = plan
        self.places = list(stand.places)
        self.modes = list(stand.modes)
        self.truths = list(stand.truths)
        self.holds = list(stand.holds)
        self.queues = list(stand.queues)
        self.levels = list(stand.levels)
        self.nests = list(stand.nests)
        self.told = []
        self.trail = []
        self.written = 0
        self.asked = 0
        self._moved = {}

    def made(self):
        return Stand(tuple(self.places), tuple(self.modes), tuple(self.truths), tuple(self.holds),
                     tuple(self.queues), tuple(self.levels), tuple(self.nests))

    def spot_of(self, task):
        return self.plan.spots[task][self.places[task]]

    def tell(self, kind, caller, task, entry):
        self.told.append((kind, self.plan.names[caller], self.plan.names[task], entry))

    def go(self, task, place):
        """Leads a task to a spot; its silent deeds are done by settle()."""
        self.places[task] = place
        self.modes[task] = READY
        self.written |= self.plan.task_bits[task]
        self._moved[task] = True

    def put_in_row(self, task, row):
        self.queues[row] = self.queues[row] + (task,)
        self.modes[task] = IN_ROW
        self.written |= self.plan.row_bits[row]

    def take_from_row(self, task, row):
        self.queues[row] = tuple([one for one in self.queues[row] if one != task])
        self.written |= self.plan.row_bits[row]

    def meet(self, task, row, entry, place):
        """The first of a row is held; the task goes on in the body for it."""
        caller = self.queues[row][0]
        self.take_from_row(caller, row)
        self.modes[caller] = MET
        self.written |= self.plan.task_bits[caller]
        self.holds[task] = self.holds[task] + (caller,)
        self.tell("meets", caller, task, entry)
        self.go(task, place)

    def break_call(self, caller):
        """A caller that is in no row and in no meeting any more goes on in its call's body."""
        called, _, entry = self.spot_of(caller).what
        self.tell("broken", caller, called, entry)
        self.go(caller, self.spot_of(caller).goes[1])

    def begin(self, task):
        self.truths[task] = ()
        self.holds[task] = ()
        self.forget_nests(task)
        self.written |= self.plan.end_bits[task]
        self.go(task, self.plan.firsts[task])

    def forget_nests(self, task):
        if self.nests:
            self.nests[task] = ()

    def open_nest(self, task, place):
        """One begun again that was not closed counts once, as the last one."""
        if self.nests:
            self.nests[task] = tuple([one for one in self.nests[task] if one != place]) + (place,)

    def close_nest(self, task):
        if self.nests:
            self.nests[task] = self.nests[task][:-1]

    def end(self, task):
        """The task has ended: whoever it holds is broken, then all in the rows of its entries."""
        self.places[task] = ENDED
        self.modes[task] = READY
        self.truths[task] = ()
        self.forget_nests(task)
        self._moved.pop(task, None)
        self.told.append(("ended", self.plan.names[task]))
        self.written |= self.plan.task_bits[task] | self.plan.end_bits[task]
        held = self.holds[task]
        self.holds[task] = ()
        for caller in held:
            if caller >= 0:
                self.break_call(caller)
        for row in self.plan.task_rows[task]:
            self.asked |= self.plan.row_bits[row]
            for caller in list(self.queues[row]):
                self.take_from_row(caller, row)
                self.break_call(caller)

    def leave_all(self, task):
        """A task that is to end leaves its row, or its meeting, in which nobody is held in its place."""
        spot = self.spot_of(task)
        if self.modes[task] == IN_ROW:
            self.take_from_row(task, spot.what[1] if spot.kind == "call" else spot.what[2])
        elif self.modes[task] == MET:
            holder = spot.what[0]
            self.holds[holder] = tuple([NOBODY if one == task else one for one in self.holds[holder]])
            self.written |= self.plan.task_bits[holder]
        self.modes[task] = READY

    def end_all(self, tasks):
        """All of them that are there end, one behind another, as an abort ends them."""
        ending = [task for task in tasks if self.places[task] >= 0]
        for task in ending:
            self.leave_all(task)
        for task in ending:
            self.end(task)

    def abort(self, task):
        if self.places[task] >= 0:
            self.end_all(sorted((task,) + self.plan.below[task]))

    def serve(self, thing):
        """As long as an open entry has a row, the first such one's first one goes on."""
        row = self.served_row(thing)
        while row is not None:
            task = self.queues[row][0]
            self.take_from_row(task, row)
            self.pass_on(task, thing)
            row = self.served_row(thing)

    def served_row(self, thing):
        for row in self.plan.thing_rows[thing]:
            opened = self.plan.opened[thing][self.plan.rows[row][1]]
            if self.queues[row] and self.levels[thing] in opened:
                return row
        return None

    def pass_on(self, task, thing):
        """A task at a wait whose entry is open leads the value and goes on."""
        spot = self.spot_of(task)
        _, opened, _, entry = spot.what
        self.levels[thing] = opened[self.levels[thing]]
        self.told.append(("served", self.plan.names[task], self.plan.thing_names[thing], entry))
        self.go(task, spot.goes[0])

    def settle(self):
        """Does all silent deeds, always of the first task that was moved, as far as it comes."""
        while self._moved:
            task = min(list(self._moved))
            self._moved.pop(task)
            self.trail.append((task, self.places[task]))
            while self.places[task] >= 0 and self.spot_of(task).kind in GOING:
                self.go_silently(task, self.spot_of(task))
                self.trail.append((task, self.places[task]))

    def go_silently(self, task, spot):
        if spot.kind == "end":
            self.end(task)
            return
        which = 0
        if spot.kind == "set":
            flag, truth = spot.what
            others = [one for one in self.truths[task] if one != flag]
            self.truths[task] = tuple(sorted(others + [flag] if truth else others))
        elif spot.kind == "if":
            which = 0 if spot.what in self.truths[task] else 1
        elif spot.kind == "apart":
            self.part(task)
        self.places[task] = spot.goes[which]

    def part(self, task):
        """The end of a meeting: the caller goes on behind its call; code can come to it without one."""
        caller = self.holds[task][-1] if self.holds[task] else NOBODY
        self.holds[task] = self.holds[task][:-1]
        if caller >= 0:
            spot = self.spot_of(caller)
            self.tell("apart", caller, task, spot.what[2])
            self.go(caller, spot.goes[0])
