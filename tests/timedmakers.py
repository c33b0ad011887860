"""Tasks that take time, for tests; own courses of them, moment by moment."""

import random

from meettasks.timed import Timed


def example_73():
    return Timed({"a": [("work", 2, 5), ("call", "s", "e", 3, [("note", "gone")]), ("note", "back")],
                  "s": [("work", 4, 6), ("take", "e", 2, 1, 1, []), ("note", "free")]})


class TimedMaker:
    """Makes up bodies with small numbers."""

    def __init__(self, seed, tasks, meetings, scale):
        self.luck = random.Random(seed)
        self.names = "abcd"[:tasks]
        self.left = meetings
        self.words = ["w" + sign for sign in "abcdefghijklmnopqrstuvwxyz"]
        self.scale = scale

    def body(self, me, deep):
        found = []
        for _ in range(self.luck.randint(1, 3)):
            kind = self.luck.choice(["call", "take", "call", "take", "work", "note"])
            if kind in ("call", "take") and self.left:
                self.left -= 1
                found.append(self.meeting(kind, me, deep))
            elif kind == "work":
                low = self.luck.randint(0, 3)
                found.append(("work", low * self.scale, (low + self.luck.choice([0, 0, 1, 2])) * self.scale))
            elif kind == "note":
                found.append(("note", self.words.pop()))
        return found

    def meeting(self, kind, me, deep):
        limit = self.luck.choice([None, 0, 1, 2, 3])
        limit = None if limit is None else limit * self.scale
        inner = self.body(me, deep - 1) if deep and self.luck.random() < 0.35 else []
        if kind == "call":
            other = self.luck.choice([name for name in self.names if name != me])
            return "call", other, self.luck.choice("ef"), limit, inner
        low = self.luck.randint(0, 2)
        high = low + self.luck.choice([0, 0, 1])
        return "take", self.luck.choice("ef"), limit, low * self.scale, high * self.scale, inner


def made_up_timed(seed, tasks=3, meetings=5, scale=1):
    maker = TimedMaker(seed, tasks, meetings, scale)
    return Timed({name: maker.body(name, 1) for name in maker.names})


def deed_of(tasks, task, path):
    deed, body = None, tasks[task]
    for number in path[::2]:
        deed = body[number]
        body = deed[-1] if deed[0] in ("call", "take") else ()
    return deed


def behind(tasks, task, path):
    """The path of what is come to behind a deed, () for the end."""
    while path:
        body = deed_of(tasks, task, path[:-2])[-1] if len(path) > 1 else tasks[task]
        if path[-1] + 1 < len(body):
            return path[:-1] + (path[-1] + 1,)
        path = path[:-2]
    return ()


def first_path(tasks, task):
    return (0,) if tasks[task] else ()


def late_path(tasks, task, path):
    return path + (0, 0) if deed_of(tasks, task, path)[-1] else behind(tasks, task, path)


class State:
    """What is so at a moment: where each task is due, who waits since when (as they came), fates and moments."""

    def __init__(self, moment, due, waiting, fates, moments):
        self.moment, self.due, self.waiting, self.fates, self.moments = moment, due, waiting, fates, moments

    def key(self):
        return (self.moment, tuple(sorted(self.due.items())), self.waiting, tuple(sorted(self.fates.items())),
                tuple(sorted(self.moments.items())))

    def changed(self, due, waiting, fates, task, path):
        return State(self.moment, due, waiting, fates, {**self.moments, (task, path): self.moment})


def limit_of(deed):
    return deed[3] if deed[0] == "call" else deed[2]


def lateness(tasks, waiting):
    task, path, since = waiting
    limit = limit_of(deed_of(tasks, task, path))
    return None if limit is None else since + limit


def are_mates(tasks, one, other):
    """Whether a call and a take, as pairs (task, path), can meet."""
    call, take = deed_of(tasks, *one), deed_of(tasks, *other)
    if call[0] == "take":
        return take[0] == "call" and are_mates(tasks, other, one)
    return take[0] == "take" and call[1] == other[0] and call[2] == take[1]


def comings(tasks, state, task, path):
    """The states behind a task's coming to what it is due at."""
    due = {one: state.due[one] for one in state.due if one != task}
    deed = deed_of(tasks, task, path) if path else ("end",)
    if deed[0] == "end":
        return [state.changed(due, state.waiting, state.fates, task, path)]
    if deed[0] == "note":
        due[task] = (behind(tasks, task, path), state.moment)
        return [state.changed(due, state.waiting, state.fates, task, path)]
    if deed[0] == "work":
        return [state.changed({**due, task: (behind(tasks, task, path), state.moment + many)}, state.waiting,
                              state.fates, task, path) for many in range(deed[1], deed[2] + 1)]
    mates = [row for row in state.waiting if are_mates(tasks, (task, path), row[:2])]
    if not mates:
        return [state.changed(due, state.waiting + ((task, path, state.moment),), state.fates, task, path)]
    other, there, _ = mates[0]
    take = deed if deed[0] == "take" else deed_of(tasks, other, there)
    fates = {**state.fates, (task, path): ("meets", other, there), (other, there): ("meets", task, path)}
    waiting = tuple(row for row in state.waiting if row != mates[0])
    found = []
    for many in range(take[3], take[4] + 1):
        both = {task: (behind(tasks, task, path), state.moment + many),
                other: (behind(tasks, other, there), state.moment + many)}
        found.append(state.changed({**due, **both}, waiting, fates, task, path))
    return found


def states_behind(tasks, state):
    """All states that something that happens at this moment leads to; none if nothing is left to happen."""
    found = []
    for task, (path, when) in state.due.items():
        if when == state.moment:
            found += comings(tasks, state, task, path)
    for row in state.waiting:
        if lateness(tasks, row) == state.moment:
            task, path, _ = row
            due = {**state.due, task: (late_path(tasks, task, path), state.moment)}
            found.append(State(state.moment, due, tuple(one for one in state.waiting if one != row),
                               {**state.fates, (task, path): ("late",)}, state.moments))
    return found


def plain_courses(timed, most):
    """All courses as pairs (fates, items of moments); None if there are more states than most."""
    tasks = timed.tasks()
    start = State(0, {task: (first_path(tasks, task), 0) for task in tasks}, (), {}, {})
    seen, coming, found = {start.key()}, [start], set()
    while coming:
        state = coming.pop()
        further = states_behind(tasks, state)
        if not further:
            later = [when for _, when in state.due.values()]
            later += [lateness(tasks, row) for row in state.waiting if lateness(tasks, row) is not None]
            if later:
                further = [State(min(later), state.due, state.waiting, state.fates, state.moments)]
            else:
                fates = {**state.fates, **{row[:2]: ("stays",) for row in state.waiting}}
                found.add((tuple(pair + (fates[pair],) for pair in sorted(fates)),
                           tuple(sorted(state.moments.items()))))
        for one in further:
            if one.key() not in seen:
                seen.add(one.key())
                coming.append(one)
        if len(seen) > most:
            return None
    return found
