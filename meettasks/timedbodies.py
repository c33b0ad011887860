"""Bodies of tasks that take time: what may stand in them, and what a task comes to next."""

from meettasks.basics import is_integer, is_list, is_word
from meettasks.errors import BadTimed

MEETINGS = ("call", "take")


def is_limit(thing):
    return thing is None or is_integer(thing) and thing >= 0


def is_stretch(low, high):
    return is_integer(low) and is_integer(high) and 0 <= low <= high


def is_timed_deed(thing):
    """Whether it is a deed, whatever is in its body."""
    if not is_list(thing) or not thing or not isinstance(thing[0], str):
        return False
    kind, rest = thing[0], thing[1:]
    if kind == "note":
        return len(rest) == 1 and is_word(rest[0])
    if kind == "work":
        return len(rest) == 2 and is_stretch(rest[0], rest[1])
    if kind == "call":
        return (len(rest) == 4 and is_word(rest[0]) and is_word(rest[1]) and is_limit(rest[2])
                and is_list(rest[3]))
    if kind != "take" or len(rest) != 5:
        return False
    return is_word(rest[0]) and is_limit(rest[1]) and is_stretch(rest[2], rest[3]) and is_list(rest[4])


def timed_along(body, path):
    """All pairs (path, thing) along a body, a deed ahead of those in its own."""
    found = []
    for number, deed in enumerate(body):
        found.append((path + (number,), deed))
        if is_timed_deed(deed) and deed[0] in MEETINGS:
            found.extend(timed_along(deed[-1], path + (number, 0)))
    return found


def is_wrong_deed(tasks, task, deed, noted):
    if not is_timed_deed(deed):
        return True
    if deed[0] == "call":
        return deed[1] not in tasks or deed[1] == task
    return deed[0] == "note" and deed[1] in noted


def check_timed(tasks):
    if not isinstance(tasks, dict) or not tasks:
        raise BadTimed(None, ())
    for task in tasks:
        if not is_word(task) or not is_list(tasks[task]):
            raise BadTimed(task, ())
    noted = {}
    for task in tasks:
        for path, deed in timed_along(tasks[task], ()):
            if is_wrong_deed(tasks, task, deed, noted):
                raise BadTimed(task, path)
            if deed[0] == "note":
                noted[deed[1]] = True


def copied_timed(body):
    return tuple([tuple(deed[:-1]) + (copied_timed(deed[-1]),) if deed[0] in MEETINGS else tuple(deed)
                  for deed in body])


class TimedSpot:
    """A deed of a task, or its end: what it comes to behind it, and first when it is late, by numbers of spots."""

    def __init__(self, task, path, deed, behind, late):
        self.pair = (task, path)
        self.kind = deed[0]
        self.deed = deed
        self.behind = behind
        self.late = late

    def limit(self):
        return self.deed[3] if self.kind == "call" else self.deed[2]


class TimedPlan:
    """Tasks by numbers, ascending; the spots of each, its end being the first of them."""

    def __init__(self, tasks):
        self.names = list(tasks)
        self.number = {task: at for at, task in enumerate(self.names)}
        self.spots = []
        self.firsts = []
        for task in self.names:
            self.spots.append([TimedSpot(task, (), ("end",), None, None)])
            self.firsts.append(self.put_body(task, tasks[task], (), 0))
        self.places = {spot.pair: at for spots in self.spots for at, spot in enumerate(spots)}

    def put_body(self, task, body, path, after):
        """The number of the spot at which a body begins; after is that of what is behind it."""
        spots = self.spots[-1]
        for at in reversed(range(len(body))):
            deed = body[at]
            late = None
            if deed[0] in MEETINGS:
                late = self.put_body(task, deed[-1], path + (at, 0), after)
            spots.append(TimedSpot(task, path + (at,), deed, after, late))
            after = len(spots) - 1
        return after

    def spot_of(self, task, at):
        return self.spots[task][at]

    def stop_from(self, task, at):
        """The next call, take or end, from a spot on."""
        while self.spots[task][at].kind in ("note", "work"):
            at = self.spots[task][at].behind
        return at
