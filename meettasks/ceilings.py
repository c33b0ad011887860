"""Lower ceilings of one thing, and whether two jobs can be inside it then."""

from meettasks.basics import is_integer
from meettasks.errors import BadCeiling


class Chance:
    """Where a job is inside a thing: units done, its priority but for the thing, and the greatest other user."""

    def __init__(self, job, units, rank, other):
        self.job = job
        self.units = units
        self.rank = rank
        self.other = other


def users_of(jobs, thing):
    """The jobs that use a thing, of greatest priority first; NoThing."""
    jobs.ceiling(thing)
    table = jobs.jobs()
    users = [job for job in table if thing in [span.thing for span in jobs.spans[job]]]
    return sorted(users, key=lambda job: -table[job][0])


def rank_without(jobs, job, units, thing):
    """The priority of a job that has done so many units, were it not for a thing."""
    inner = [span.thing for span in jobs.spans[job] if span.is_inside(units) and span.thing != thing]
    return max([jobs.jobs()[job][0]] + [jobs.ceiling(one) for one in inner])


def chances(jobs, thing):
    users = users_of(jobs, thing)
    found = []
    for job in users:
        others = [other for other in users if other != job]
        for span in jobs.spans[job]:
            if span.thing == thing and others:
                found.extend([Chance(job, units, rank_without(jobs, job, units, thing), others[0])
                              for units in range(span.first + 1, span.stop)])
    return found


def tangle(jobs, thing, ceiling):
    found = chances(jobs, thing)
    if not is_integer(ceiling) or ceiling < 0:
        raise BadCeiling(ceiling)
    table = jobs.jobs()
    for chance in found:
        if max(chance.rank, ceiling) < table[chance.other][0]:
            comings = {chance.job: [0], chance.other: [chance.units]}
            return {job: comings[job] for job in sorted(comings)}
    return None


def least_ceiling(jobs, thing):
    table = jobs.jobs()
    needed = [table[chance.other][0] for chance in chances(jobs, thing) if chance.rank < table[chance.other][0]]
    return max([0] + needed)
