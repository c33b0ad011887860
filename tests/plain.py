"""Own counts for tests: all that points 12 to 33 tell, by plain stepping of runs and by trying out."""

from itertools import combinations

from meettasks.runs import Run
from meettasks.strikes import StruckRun
from meettasks.touching import asked, written
from tests.makers import stand_key


def run_key(run):
    """All that a run, struck or not, tells of its stand."""
    if isinstance(run, StruckRun):
        return stand_key(run), tuple(sorted(step[0] for step in run.steps() if step[1] == "struck"))
    return stand_key(run)


class World:
    """All stands from a run on, in the order of first orders: runs, and for each the steps with where they lead."""

    def __init__(self, start):
        self.runs = [start]
        self.numbers = {run_key(start): 0}
        self.goes = []
        at = 0
        while at < len(self.runs):
            run = self.runs[at]
            ways = {}
            for step in sorted(run.let()):
                further = run.more([step])
                key = run_key(further)
                if key not in self.numbers:
                    self.numbers[key] = len(self.runs)
                    self.runs.append(further)
                ways[step] = self.numbers[key]
            self.goes.append([(step, ways[step]) for step in run.let()])
            at += 1

    def first(self, at):
        return self.runs[at].steps()


def world_of(program):
    return World(Run(program))


def all_orders(program, longest, most=100000):
    """All orders of at most so many steps, in the order of choices; None if there are more than most."""
    level = [Run(program)]
    found = [[]]
    for _ in range(longest):
        level = [run.more([step]) for run in level for step in sorted(run.let())]
        found += [run.steps() for run in level]
        if len(found) > most:
            return None
    return found


def touch_at(program, ahead, first, second):
    """Whether two neighbours of an order touch: first behind ahead, second behind both."""
    one = (set(written(program, ahead + [first])), set(asked(program, ahead + [first])))
    two = (set(written(program, ahead + [first, second])), set(asked(program, ahead + [first, second])))
    return bool(one[0] & (two[0] | two[1]) or one[1] & two[0])


def exchanged(program, order):
    """All orders that one exchange of neighbours that do not touch leads to, by its index."""
    found = {}
    for at in range(len(order) - 1):
        if not touch_at(program, order[:at], order[at], order[at + 1]):
            found[at] = order[:at] + [order[at + 1], order[at]] + order[at + 2:]
    return found


def distances_from(program, order):
    """How few exchanges lead to each order that is one with it."""
    found = {tuple(order): 0}
    level = [order]
    while level:
        further = []
        for one in level:
            for other in exchanged(program, one).values():
                if tuple(other) not in found:
                    found[tuple(other)] = found[tuple(one)] + 1
                    further.append(other)
        level = further
    return found


def marks_of(order):
    many = {}
    marks = []
    for step in order:
        marks.append((step[0], many.get(step[0], 0)))
        many[step[0]] = many.get(step[0], 0) + 1
    return marks


def touching_marks(program, order):
    """All pairs of places of an order whose steps touch, as it does them."""
    lots = []
    for at in range(len(order)):
        lots.append((set(written(program, order[:at + 1])), set(asked(program, order[:at + 1]))))
    return {(one, two) for one in range(len(order)) for two in range(one + 1, len(order))
            if lots[one][0] & (lots[two][0] | lots[two][1]) or lots[one][1] & lots[two][0]}


def reached_from(world, at):
    found = {at}
    coming = [at]
    while coming:
        for _, target in world.goes[coming.pop()]:
            if target not in found:
                found.add(target)
                coming.append(target)
    return found


def plain_steps(world, at):
    return [(step, target) for step, target in world.goes[at] if step[1] != "struck"]


def waits(world, at, task):
    run = world.runs[at]
    return (run.how(task) not in ("absent", "ended")
            and not any(step[0] == task for step, _ in plain_steps(world, at)))


def moves(world, at, step, target, task):
    here, there = world.runs[at], world.runs[target]
    return step[0] == task or (here.place(task), here.how(task)) != (there.place(task), there.how(task))


def waiting_goes(world, task, struck=()):
    """By the stands at which a task waits, just these struck, the steps that leave it unmoved."""
    members = [at for at in range(len(world.runs)) if waits(world, at, task)
               and sorted(step[0] for step in world.first(at) if step[1] == "struck") == sorted(struck)]
    return {at: [(step, target) for step, target in plain_steps(world, at)
                 if target in members and not moves(world, at, step, target, task)] for at in members}


def unended_goes(world):
    members = [at for at in range(len(world.runs)) if world.runs[at].how("main") != "ended"]
    return {at: [(step, target) for step, target in world.goes[at] if target in members] for at in members}


def arm_at(world, at, step):
    return (step[0], world.runs[at].place(step[0]), step[2]) if step[1] == "arm" else None


def is_kind(world, kind, stands, edges):
    """Whether going round stands by edges (stand, step) for ever is of a kind."""
    if kind == "any":
        return True
    for task in {step[0] for at in stands for step, _ in plain_steps(world, at)}:
        if all(any(step[0] == task for step, _ in plain_steps(world, at)) for at in stands):
            if not any(step[0] == task for _, step in edges):
                return False
    if kind == "weak":
        return True
    can = {arm_at(world, at, step) for at in stands for step, _ in plain_steps(world, at) if step[1] == "arm"}
    return can <= {arm_at(world, at, step) for at, step in edges}


def are_joined(lot, goes):
    """Whether each of a lot of stands leads to each, by one step or more, within the lot."""
    for start in lot:
        seen = set()
        coming = [start]
        while coming:
            for _, target in goes[coming.pop()]:
                if target in lot and target not in seen:
                    seen.add(target)
                    coming.append(target)
        if seen != set(lot):
            return False
    return True


def can_go_on(world, goes, kind):
    """Whether some endless order of a kind stays in a field of at most twelve stands."""
    if any(not plain_steps(world, at) for at in goes):
        return True
    for many in range(1, len(goes) + 1):
        for lot in combinations(sorted(goes), many):
            if are_joined(lot, goes):
                edges = [(at, step) for at in lot for step, target in goes[at] if target in lot]
                if is_kind(world, kind, lot, edges):
                    return True
    return False


def is_plain_lasso(world, goes, kind, steps, ring):
    """Whether a pair of lists of steps is an endless order of a kind that stays in a field."""
    at = 0
    for step in steps:
        ways = dict(world.goes[at])
        if step not in ways:
            return False
        at = ways[step]
    if at not in goes:
        return False
    if not ring:
        return not plain_steps(world, at)
    home, edges = at, []
    for step in ring:
        ways = dict(goes[at])
        if step not in ways:
            return False
        edges.append((at, step))
        at = ways[step]
    return at == home and is_kind(world, kind, [one for one, _ in edges], edges)


def well(row, behind, owned):
    both = min(len(row), len(behind))
    unlike = next((k for k in range(both) if row[k][0] != behind[k][0]), None)
    if unlike is not None and behind[unlike][0] > row[unlike][0]:
        return False
    if any(row[k][1] != behind[k][1] for k in range(both if unlike is None else unlike)):
        return False
    return all((unlike is not None and unlike <= k) or len(behind) <= k for k in owned)


def are_plain_helpers(world, goes, kind, rows):
    """Whether well-formed rows, by first runs, are helpers for a field."""
    firsts = {tuple(world.first(at)): at for at in goes}
    if set(firsts) != set(rows):
        return False
    by_stand = {firsts[key]: rows[key] for key in rows}
    for at, row in by_stand.items():
        steps = plain_steps(world, at)
        doers = {step[0] for step, _ in steps}
        arms = {arm_at(world, at, step) for step, _ in steps if step[1] == "arm"}
        if not steps or not row or (kind != "strong" and len(row) != 1):
            return False
        last = row[-1][1]
        if kind == "any" and last is not None or kind == "weak" and last not in doers:
            return False
        if kind == "strong" and (last not in doers | arms or any(one[1] in arms | doers for one in row[:-1])):
            return False
        for step, target in goes[at]:
            owned = [k for k, (_, helper) in enumerate(row)
                     if helper is None or helper == step[0] or helper == arm_at(world, at, step)]
            if not well(row, by_stand[target], owned):
                return False
    return True
