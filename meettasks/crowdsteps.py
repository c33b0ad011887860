"""All steps of a crowd, by known stands: how many like ones each needs in which spots, and where they come."""

from meettasks.knowns import Known, used_levels
from meettasks.likes import LikeBody
from meettasks.servers import serving_of


class CrowdStep:
    """A step at a known stand: the one behind, and like ones by numbers of spots: needed, and brought."""

    def __init__(self, step, target, needs, brings):
        self.step = step
        self.target = target
        self.needs = needs
        self.brings = brings


def netted(hops):
    """What like ones hopping from spots to spots, one behind another, need and bring, by spots."""
    needs = {}
    brings = {}
    for source, target in hops:
        if brings.get(source, 0) > 0:
            brings[source] -= 1
        else:
            needs[source] = needs.get(source, 0) + 1
        brings[target] = brings.get(target, 0) + 1
    return needs, {spot: brings[spot] for spot in brings if brings[spot]}


class CrowdSteps:
    """Known stands of a crowd by numbers, ascending as they are told, with all steps that can ever be there."""

    def __init__(self, servers, body):
        self.serving = serving_of(servers)
        self.likes = LikeBody(self.serving.plan, body)
        self.spots = self.likes.spots
        self.number = {spot: at for at, spot in enumerate(self.spots)}
        known = self.all_knowns()
        order = sorted(known, key=lambda one: self.serving.told(one))
        self.told = [self.serving.told(one) for one in order]
        self.places = {one.key: at for at, one in enumerate(order)}
        self.steps = [self.steps_at(one) for one in order]
        self.first = self.places[self.serving.start().key]
        self.home = self.number[self.likes.first]
        self.sources = [[] for _ in order]
        for at, steps in enumerate(self.steps):
            for step in steps:
                self.sources[step.target].append((at, step))

    def moves_at(self, known):
        """The steps of servers, takes of entries that like ones call alone."""
        return [move for move in self.serving.moves_at(known) if move.taken is None or move.taken in self.likes.called]

    def known_behind(self, known, one):
        """The known stand behind a step of a like one."""
        if one.led is None:
            return known
        return Known(known.places, known.truths, used_levels(known.levels, one.led))

    def all_knowns(self):
        start = self.serving.start()
        found = [start]
        seen = {start.key: True}
        at = 0
        while at < len(found):
            known = found[at]
            at += 1
            behind = [move.target for move in self.moves_at(known)]
            behind.extend([self.known_behind(known, one) for one in self.likes.steps])
            for target in behind:
                if target.key not in seen:
                    seen[target.key] = True
                    found.append(target)
        return found

    def hops_of(self, move):
        """From which spots to which like ones come by a server's step."""
        called = self.likes.called
        hops = []
        if move.taken is not None:
            hops.append((("calling", called[move.taken]), ("met", called[move.taken])))
        hops.extend([(("met", called[entry]), self.likes.behind[entry]) for entry in move.over])
        return hops

    def steps_at(self, known):
        """All steps that can be at a known stand, as let() orders them."""
        found = []
        for move in self.moves_at(known):
            found.append(self.numbered(move.step, move.target, self.hops_of(move)))
        for one in self.likes.steps:
            found.append(self.numbered(one.step, self.known_behind(known, one), [(one.source, one.target)]))
        return found

    def numbered(self, step, known, hops):
        needs, brings = netted([(self.number[source], self.number[target]) for source, target in hops])
        return CrowdStep(step, self.places[known.key], needs, brings)


def crowd_steps(crowd):
    if "steps" not in crowd.kept:
        crowd.kept["steps"] = CrowdSteps(crowd.servers(), crowd.body())
    return crowd.kept["steps"]
