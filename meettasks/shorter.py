"""Rows of code to which their tasks come; code without the others; flags that have to be kept at a row."""

from meettasks.basics import is_integer
from meettasks.codeforms import entries_taken, places_in
from meettasks.codes import Code, rows_by_task
from meettasks.errors import NoRow
from meettasks.programs import known_task
from meettasks.smallplans import small_graph
from meettasks.steps import first_stand


def all_trails(graph):
    """What tasks come to, as lists of pairs (task, row): ahead of all steps, and by each step."""
    found = [first_stand(graph.plan).trail]
    for edges in graph.edges:
        found.extend([edge.trail for edge in edges])
    return found


def coming_rows(code):
    """The pairs (task, number) of rows to which their task comes, as keys."""
    graph = small_graph(code)
    names = graph.plan.names
    return {(names[task], number): True for trail in all_trails(graph) for task, number in trail if number >= 0}


def rows_coming(code):
    return sorted(coming_rows(code))


def passes(graph):
    """The triples (task, number, number behind) of rows that a task passes in one step, as keys."""
    names = graph.plan.names
    found = {}
    for at, edges in enumerate(graph.edges):
        for edge in edges:
            if edge.step[1] == "row":
                task = graph.plan.number[edge.step[0]]
                ahead = (task, graph.stands[at].places[task])
                put_passes(names, [ahead] + [place for place in edge.trail if place[0] == task][:1], found)
    for trail in all_trails(graph):
        put_passes(names, trail, found)
    return found


def put_passes(names, trail, found):
    """Behind a row that a task passes stands, in a trail, the one that it comes to by this."""
    for at in range(1, len(trail)):
        task, number = trail[at - 1]
        if trail[at][0] == task and trail[at][1] >= 0:
            found[names[task], number, trail[at][1]] = True


class Shortening:
    """Code on its way to a shorter one: which rows come, and to which row of the new code each leads."""

    def __init__(self, code):
        self.rows = rows_by_task(code)
        self.coming = coming_rows(code)
        self.passed = passes(small_graph(code))

    def one_way(self, task, number):
        """Which way alone an "unless" is passed, by the flag being True or False; None if both come."""
        flag_on = (task, number, number + 1) in self.passed
        flag_off = (task, number, self.rows[task][number][0][2]) in self.passed
        if flag_on == flag_off:
            return None
        return flag_on

    def written(self, task, number):
        """The rows in the place of a row that comes; an "unless" passed one way alone sets what is so."""
        row, on = self.rows[task][number]
        truth = self.one_way(task, number) if row[0] == "unless" else None
        if truth is None:
            return [(row, on)]
        kept = (("set", row[1], truth), on)
        return [kept] if truth else [kept, (("go", row[2]), True)]

    def target(self, task, place):
        """Where a place leads at last, passing each "go" that is on."""
        row, on = self.rows[task][place]
        while on and row[0] == "go":
            place = row[1]
            row, on = self.rows[task][place]
        return place

    def short_rows(self, task, called):
        """The rows of a task that come, and behind them what has to be there; called are the entries called."""
        numbers = [number for number in range(len(self.rows[task])) if (task, number) in self.coming]
        starts = {}
        found = []
        for number in numbers:
            starts[number] = len(found)
            found.extend(self.written(task, number))
        taken = entries_taken(found)
        lacking = [(("take", entry), False) for entry in called if entry not in taken]
        last = [] if found and not lacking and is_last(found[-1][0]) else [(("over",), True)]
        return [(self.placed(task, row, starts), on) for row, on in found] + lacking + last

    def placed(self, task, row, starts):
        """A row with the places of the new code; one to which it never leads is any."""
        return with_places(row, [starts.get(self.target(task, place), 0) for place in places_in(row)])


def is_last(row):
    return row[0] in ("go", "offer", "pick", "over")


def with_places(row, places):
    """A row with other places."""
    if row[0] == "pick":
        return "pick", tuple(places)
    if row[0] == "offer":
        arms = tuple([arm[:2] + (places[at],) for at, arm in enumerate(row[1])])
        return "offer", arms, row[2] if len(places) == len(arms) else ("else", places[-1])
    return row[:-1] + (places[0],) if places else row


def entries_called(rows, coming):
    """By tasks the entries, ascending, that are called in rows that come."""
    calls = {row[1:3]: True for task in rows for number, (row, _) in enumerate(rows[task])
             if row[0] == "call" and (task, number) in coming}
    return {task: sorted([entry for called, entry in calls if called == task]) for task in rows}


def shortened(code):
    """Code without rows that do not come; a "go" may be left to which none leads any more."""
    shortening = Shortening(code)
    called = entries_called(shortening.rows, shortening.coming)
    rows = {task: shortening.short_rows(task, called[task]) for task in shortening.rows}
    return Code(rows, code.things())


def short_code(code):
    shorter = shortened(code)
    while shorter != code:
        code = shorter
        shorter = shortened(code)
    return code


def asked_at(row):
    """The flags that a row asks."""
    if row[0] == "unless":
        return [row[1]]
    return [arm[0] for arm in row[1] if arm[0] is not None] if row[0] == "offer" else []


class Asking:
    """By stands the flags that one task asks later, if it is there; by rows those behind some coming to them."""

    def __init__(self, code, task):
        self.graph = small_graph(code)
        self.rows = code.rows(task)
        self.task = self.graph.plan.number[task]
        self.later = [{} for _ in self.graph.stands]
        self.behind = [{} for _ in self.rows]
        changed = True
        while changed:
            changed = False
            for at in range(len(self.graph.stands)):
                for edge in self.graph.edges[at]:
                    flags = self.asked_along(edge.trail, edge.target)
                    if self.graph.stands[at].places[self.task] >= 0:
                        changed = self.put_flags(self.later[at], flags) or changed
        self.asked_along(first_stand(self.graph.plan).trail, 0)

    def put_flags(self, found, flags):
        """Puts flags to those found; whether there was any new one."""
        many = len(found)
        found.update(flags)
        return len(found) > many

    def asked_along(self, trail, target):
        """What the task asks by a step and behind it, what it comes to being put down by rows."""
        flags = dict(self.later[target]) if self.graph.stands[target].places[self.task] >= 0 else {}
        for task, number in reversed(trail):
            if task == self.task and number >= 0:
                self.put_flags(self.behind[number], flags)
                row = self.rows[number][0]
                if row[0] == "set":
                    flags.pop(row[1], None)
                flags.update({flag: True for flag in asked_at(row)})
        return flags


def needed_flags(code, task, number):
    known_task(code, task)
    if not is_integer(number) or not 0 <= number < len(code.rows(task)):
        raise NoRow(number)
    return sorted(Asking(code, task).behind[number])
