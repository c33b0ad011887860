"""Known stands of servers, and what a step of a server does, whoever calls."""

from meettasks.bodies import deed_at
from meettasks.plans import GOING, plan_of


class Known:
    """Where each server stands, its flags, and the values of things, by numbers of spots; key tells it by tuples."""

    def __init__(self, places, truths, levels):
        self.places = places
        self.truths = truths
        self.levels = levels
        self.key = (places, truths, levels)


class Move:
    """A step of a server: the known stand behind it, the entry by which it takes, and those of meetings that end."""

    def __init__(self, step, target, taken, over):
        self.step = step
        self.target = target
        self.taken = taken
        self.over = over


def entries_around(body, path):
    """The entries of the meetings around a place of a body, outermost first."""
    found = []
    for length in range(1, len(path), 2):
        deed = deed_at(body, path[:length])
        if deed[0] == "take":
            found.append(deed[1])
        elif deed[0] == "offer":
            found.append(deed[1][path[length]][1])
    return found


class Serving:
    """The steps of the servers of a program; the first task of its plan is main, all others are servers."""

    def __init__(self, program):
        self.plan = plan_of(program)
        self.tasks = list(range(1, len(self.plan.names)))
        self.around = []
        for task, name in enumerate(self.plan.names):
            body = program.body(name)
            self.around.append([entries_around(body, spot.path) for spot in self.plan.spots[task]])

    def start(self):
        places = []
        truths = []
        for task in self.tasks:
            place, flags, _ = self.settled(task, self.plan.firsts[task], (), [])
            places.append(place)
            truths.append(flags)
        return Known(tuple(places), tuple(truths), tuple(self.plan.starts))

    def settled(self, task, place, flags, held):
        """Where a server comes to by silent deeds, its flags then, and the entries of meetings that end on the way."""
        spots = self.plan.spots[task]
        left = list(held)
        over = []
        while spots[place].kind in GOING:
            spot = spots[place]
            which = 0
            if spot.kind == "set":
                others = [flag for flag in flags if flag != spot.what[0]]
                flags = tuple(sorted(others + [spot.what[0]] if spot.what[1] else others))
            elif spot.kind == "if" and spot.what not in flags:
                which = 1
            elif spot.kind == "apart":
                over.append((self.plan.names[task], left.pop()))
            place = spot.goes[which]
        return place, flags, over

    def spot_at(self, known, task):
        return self.plan.spots[task][known.places[task - 1]]

    def held_at(self, known, task):
        """The entries of the meetings in which a server is."""
        return self.around[task][known.places[task - 1]]

    def is_meeting(self, known):
        return any([self.held_at(known, task) for task in self.tasks])

    def takes_at(self, known, task):
        """The pairs (entry, step behind the task) by which a server can take at a known stand."""
        spot = self.spot_at(known, task)
        if spot.kind == "take":
            return [(spot.what[1], ("take",))]
        if spot.kind == "offer":
            arms = spot.what[0]
            flags = known.truths[task - 1]
            return [(arm[2], ("arm", at)) for at, arm in enumerate(arms) if arm[0] is None or arm[0] in flags]
        return []

    def moves_at(self, known):
        """All steps of servers, as let() orders them, each take being possible."""
        found = []
        for task in self.tasks:
            spot = self.spot_at(known, task)
            if spot.kind in ("take", "offer"):
                for entry, behind in self.takes_at(known, task):
                    place = spot.goes[behind[1] if spot.kind == "offer" else 0]
                    found.append(self.move(known, task, behind, place, entry))
            elif spot.kind == "pick":
                found.extend([self.move(known, task, ("pick", at), place, None) for at, place in enumerate(spot.goes)])
            else:
                found.append(self.move(known, task, (spot.kind,), spot.goes[0], None))
        return found

    def move(self, known, task, behind, place, entry):
        name = self.plan.names[task]
        held = self.held_at(known, task) + ([] if entry is None else [entry])
        place, flags, over = self.settled(task, place, known.truths[task - 1], held)
        at = task - 1
        levels = known.levels
        spot = self.spot_at(known, task)
        if spot.kind == "use":
            levels = used_levels(levels, spot.what)
        target = Known(known.places[:at] + (place,) + known.places[at + 1:],
                       known.truths[:at] + (flags,) + known.truths[at + 1:], levels)
        return Move((name,) + behind, target, None if entry is None else (name, entry), over)

    def told(self, known):
        """The known stand as the document tells it."""
        places = [(self.spot_at(known, task).path, known.truths[task - 1]) for task in self.tasks]
        return tuple(places), known.levels


def used_levels(levels, what):
    """The values behind a use; what is the number of the thing with where its deed leads values."""
    thing, led = what
    return levels[:thing] + (led[levels[thing]],) + levels[thing + 1:]
