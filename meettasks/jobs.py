"""Jobs on one processor that lock guarded things, each with a ceiling, and what comings of them do."""

from meettasks.basics import is_integer, is_list, is_word
from meettasks.clocks import answer_times, units_of
from meettasks.errors import BadComings, BadJobs, BadNumber, NoJob, NoThing
from meettasks.jobparts import are_parts, copied_parts, spans_in


def is_job(thing):
    if not is_list(thing) or len(thing) != 3 or not is_integer(thing[0]) or not is_integer(thing[1]):
        return False
    return thing[0] >= 1 and thing[1] >= 1 and are_parts(thing[2], [])


def check_jobs(jobs):
    if not isinstance(jobs, dict) or not jobs:
        raise BadJobs(None)
    seen = set()
    for job in jobs:
        if not is_word(job) or not is_job(jobs[job]) or jobs[job][0] in seen:
            raise BadJobs(job)
        seen.add(jobs[job][0])


class Jobs:
    """Jobs; they do not change. What is worked out of them is kept."""

    def __init__(self, jobs):
        check_jobs(jobs)
        self._table = {job: (jobs[job][0], jobs[job][1], copied_parts(jobs[job][2])) for job in sorted(jobs)}
        self._costs = {}
        self._ceilings = {}
        self.spans = {}
        for job in self._table:
            self.spans[job], self._costs[job] = spans_in(self._table[job][2], (), 0)
            for span in self.spans[job]:
                self._ceilings[span.thing] = max(self._ceilings.get(span.thing, 0), self._table[job][0])
        self.kept = {}

    def __eq__(self, other):
        return isinstance(other, Jobs) and self._table == other._table

    def jobs(self):
        return {job: self._table[job] for job in self._table}

    def cost(self, job):
        return self._costs[known_job(self, job)]

    def ceiling(self, thing):
        if not isinstance(thing, str) or thing not in self._ceilings:
            raise NoThing(thing)
        return self._ceilings[thing]


def known_job(jobs, job):
    """The job, if there is one called so."""
    if not isinstance(job, str) or job not in jobs.jobs():
        raise NoJob(job)
    return job


def are_moments(thing, distance):
    """Whether it is an ascending list of moments, any two at least so far apart."""
    if not is_list(thing) or not all([is_integer(moment) and moment >= 0 for moment in thing]):
        return False
    return all([thing[at + 1] - thing[at] >= distance for at in range(len(thing) - 1)])


def checked_comings(jobs, comings):
    if not isinstance(comings, dict):
        raise BadComings(None)
    table = jobs.jobs()
    for job in comings:
        if not isinstance(job, str) or job not in table or not are_moments(comings[job], table[job][1]):
            raise BadComings(job)
    return {job: list(comings[job]) for job in sorted(comings)}


def done(jobs, comings):
    return units_of(jobs, checked_comings(jobs, comings))


def answers(jobs, comings):
    known = checked_comings(jobs, comings)
    return answer_times(known, units_of(jobs, known))


def breakdown(jobs, comings, job, number):
    known_job(jobs, job)
    known = checked_comings(jobs, comings)
    if not is_integer(number) or not 0 <= number < len(known.get(job, [])):
        raise BadNumber(number)
    row = units_of(jobs, known)
    first = known[job][number]
    stop = first + answer_times(known, row)[job][number]
    found = {}
    for unit in row[first:stop]:
        if unit is not None:
            found[unit[0]] = found.get(unit[0], 0) + 1
    return {one: found[one] for one in sorted(found)}
