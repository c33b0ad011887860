"""The body of like ones: what may stand in it, and where its steps lead."""

from meettasks.basics import is_list
from meettasks.bodies import SILENT, deed_at, deeds_along, entries_in, is_deed, silent_ways
from meettasks.checking import has_use
from meettasks.errors import BadLike
from meettasks.plans import Coder

LIKE_KINDS = ("note", "pick", "again", "leave", "use", "call")
ENDED_SPOT = ("ended", ())


def has_loop(body, path):
    """Whether an "again" is around a path."""
    return any([deed_at(body, path[:length])[0] == "again" for length in range(1, len(path), 2)])


def is_call_let(servers, deed, called):
    """Whether a deed calls a server by an entry of it that was not called before, with an empty body."""
    if deed[1] not in servers.names() or deed[3]:
        return False
    return deed[2] in entries_in(servers.program().body(deed[1])) and (deed[1], deed[2]) not in called


def is_let(servers, body, path, deed, called):
    """Whether a deed may stand there in a body of like ones, so many entries being called ahead."""
    if not is_deed(deed) or deed[0] not in LIKE_KINDS:
        return False
    if deed[0] == "leave":
        return has_loop(body, path)
    if deed[0] == "again":
        ends, _ = silent_ways(deed[1])
        return not ends
    if deed[0] == "use":
        return has_use(servers.program().things(), deed[1], deed[2])
    return deed[0] != "call" or is_call_let(servers, deed, called)


def check_like(servers, body):
    """BadLike for the first deed against it."""
    if not is_list(body):
        raise BadLike(())
    called = {}
    steps = 0
    for path, deed in deeds_along(body):
        if not is_let(servers, body, path, deed, called):
            raise BadLike(path)
        if deed[0] == "call":
            called[deed[1], deed[2]] = True
        if deed[0] not in SILENT:
            steps += 1
    if steps == 0:
        raise BadLike(())


class LikeStep:
    """A step of a like one: from which spot to which, and what its use leads, None of all others."""

    def __init__(self, step, source, target, led):
        self.step = step
        self.source = source
        self.target = target
        self.led = led


class LikeBody:
    """The spots of like ones with a body, and their steps, by path, then number; called are the paths of calls."""

    def __init__(self, plan, body):
        self.coder = Coder(plan)
        end = self.coder.new_spot("end", (), None, ())
        self.first = self.spot_from(self.coder.body(body, (), end, end))
        self.called = {}
        self.behind = {}
        self.steps = []
        self.uses = []
        for place, spot in enumerate(self.coder.spots):
            if spot.kind == "call":
                entry = (plan.names[spot.what[0]], spot.what[2])
                self.called[entry] = spot.path
                self.behind[entry] = self.spot_from(spot.goes[0])
            self.steps.extend(self.steps_from(place))
        self.steps = sorted(self.steps, key=lambda one: one.step[1:])
        self.spots = self.all_spots()

    def spot_from(self, place):
        """The spot to which a like one comes from a place by silent deeds."""
        spot = self.coder.spots[place]
        while spot.kind in ("again", "leave"):
            spot = self.coder.spots[spot.goes[0]]
        return ENDED_SPOT if spot.kind == "end" else ("ready", spot.path)

    def steps_from(self, place):
        spot = self.coder.spots[place]
        source = ("ready", spot.path)
        if spot.kind == "pick":
            return [LikeStep(("like", spot.path, at), source, self.spot_from(spot.goes[at]), None)
                    for at in range(len(spot.goes))]
        if spot.kind == "call":
            return [LikeStep(("like", spot.path), source, ("calling", spot.path), None)]
        if spot.kind in ("note", "use"):
            led = spot.what if spot.kind == "use" else None
            return [LikeStep(("like", spot.path), source, self.spot_from(spot.goes[0]), led)]
        return []

    def all_spots(self):
        ready = sorted({one.source for one in self.steps})
        paths = [self.called[entry] for entry in self.called]
        rows = [(kind, path) for kind in ("calling", "met") for path in paths]
        return sorted(ready + rows + [ENDED_SPOT])
