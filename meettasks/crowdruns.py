"""Runs of so many like ones with their servers."""

from meettasks.basics import is_integer, is_list, is_path
from meettasks.crowdsteps import crowd_steps
from meettasks.errors import BadMany, BadStep


def as_crowd_step(thing):
    """A step as it is told, None for any object that is none by its form."""
    if not is_list(thing) or not 2 <= len(thing) <= 3 or not isinstance(thing[0], str):
        return None
    if len(thing) == 3 and not is_integer(thing[2]):
        return None
    if is_path(thing[1]):
        return (thing[0], tuple(thing[1])) + tuple(thing[2:])
    return tuple(thing) if isinstance(thing[1], str) else None


def can_do(step, counts):
    return all([counts.get(spot, 0) >= step.needs[spot] for spot in step.needs])


def counts_behind(step, counts):
    """Like ones by numbers of spots behind a step; spots without any are left out."""
    found = {spot: counts[spot] for spot in counts}
    for spot in step.needs:
        found[spot] -= step.needs[spot]
    for spot in step.brings:
        found[spot] = found.get(spot, 0) + step.brings[spot]
    return {spot: found[spot] for spot in sorted(found) if found[spot]}


class CrowdRun:
    """A run of a crowd; it does not change."""

    def __init__(self, crowd, many, steps=()):
        if not is_integer(many) or many < 0:
            raise BadMany(many)
        self._crowd = crowd
        self._all = crowd_steps(crowd)
        self._at = self._all.first
        self._many = {self._all.home: many} if many else {}
        self._done = []
        self._go_on(steps)

    def _go_on(self, steps):
        """Does further steps; BadStep with their own numbers."""
        if not is_list(steps):
            raise BadStep(0)
        for index, thing in enumerate(steps):
            asked = as_crowd_step(thing)
            found = [one for one in self._steps_now() if one.step == asked]
            if not found:
                raise BadStep(index)
            self._at = found[0].target
            self._many = counts_behind(found[0], self._many)
            self._done = self._done + [asked]

    def _steps_now(self):
        return [one for one in self._all.steps[self._at] if can_do(one, self._many)]

    def __eq__(self, other):
        return (isinstance(other, CrowdRun) and self._crowd == other._crowd and self._at == other._at
                and self._many == other._many)

    def let(self):
        return [one.step for one in self._steps_now()]

    def more(self, steps):
        further = CrowdRun(self._crowd, 0)
        further._at = self._at
        further._many = self._many
        further._done = self._done
        further._go_on(steps)
        return further

    def steps(self):
        return list(self._done)

    def known(self):
        return self._all.told[self._at]

    def counts(self):
        return {self._all.spots[spot]: self._many[spot] for spot in self._many}
