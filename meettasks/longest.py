"""The longest answers of jobs, and how far apart a job has to come for short ones."""

from math import lcm

from meettasks.basics import is_integer
from meettasks.clocks import answer_times, units_of
from meettasks.errors import BadEnds
from meettasks.jobs import Jobs, known_job


def locks_against(jobs, job):
    """The pairs (job, span) of all locks against a job."""
    own = jobs.jobs()[job][0]
    found = []
    for lesser in lesser_jobs(jobs, job):
        stop = 0
        for span in jobs.spans[lesser]:
            # Spans come each ahead of those in it: what begins ahead of the last lock's end stands in that.
            if jobs.ceiling(span.thing) >= own and span.first >= stop:
                found.append((lesser, span))
                stop = span.stop
    return found


def lesser_jobs(jobs, job):
    table = jobs.jobs()
    return [one for one in table if table[one][0] < table[job][0]]


def bearing_jobs(jobs, job):
    """The job and all of greater priority."""
    table = jobs.jobs()
    return [one for one in table if table[one][0] >= table[job][0]]


def worst_lock(jobs, job):
    """The pair (job, span) of a lock of most units, None if there is none."""
    locks = locks_against(jobs, job)
    if not locks:
        return None
    return max(locks, key=lambda lock: lock[1].stop - lock[1].first)


def most_barred(jobs, job):
    lock = worst_lock(jobs, known_job(jobs, job))
    return 0 if lock is None else lock[1].stop - lock[1].first - 1


def lock_against(jobs, job):
    lock = worst_lock(jobs, known_job(jobs, job))
    return None if lock is None else (lock[0], lock[1].path)


def common_multiple(jobs, some):
    table = jobs.jobs()
    found = 1
    for job in some:
        found = lcm(found, table[job][1])
    return found


def room_left(jobs, some):
    """How many moments of a common multiple of their distances these jobs leave; less than 0 at a load above 1."""
    table = jobs.jobs()
    whole = common_multiple(jobs, some)
    return whole - sum([whole // table[job][1] * jobs.cost(job) for job in some])


def busy_moments(jobs, some, more):
    """The first moment at which these jobs, coming at once and as often as may be, have done all, and more units."""
    table = jobs.jobs()
    moment = 0
    further = more + sum([jobs.cost(job) for job in some])
    while further != moment:
        moment = further
        further = more + sum([-(-moment // table[job][1]) * jobs.cost(job) for job in some])
    return moment


def stretch_of(jobs, job):
    """How many moments the busy stretch has, or so many of it as tell the longest answer; None at a load above 1."""
    some = bearing_jobs(jobs, job)
    room = room_left(jobs, some)
    if room < 0:
        return None
    more = most_barred(jobs, job)
    return common_multiple(jobs, some) if room == 0 and more > 0 else busy_moments(jobs, some, more)


def repeated(jobs, job, first, many):
    """The moments at which a job comes from one on, within so many, as often as may be."""
    distance = jobs.jobs()[job][1]
    return [first + turn * distance for turn in range(-(-many // distance))]


def comings_at_once(jobs, job, stretch, many):
    """All come as soon as the worst lock is entered; the job itself within the stretch, others so many moments."""
    lock = worst_lock(jobs, job)
    first = 0 if lock is None else lock[1].first + 1
    found = {one: repeated(jobs, one, first, stretch if one == job else many) for one in bearing_jobs(jobs, job)}
    if lock is not None:
        found[lock[0]] = [0]
    return {one: found[one] for one in sorted(found)}, first


def longest_of(jobs, job):
    """The triple (comings, number, answer) of a longest answer of a job, None if there is none."""
    stretch = stretch_of(jobs, job)
    if stretch is None:
        return None
    many = 0
    last = stretch
    while last > many:
        # Where the stretch has no end those of the job are answered behind it: others come until then.
        many = last
        comings, first = comings_at_once(jobs, job, stretch, many)
        times = answer_times(comings, units_of(jobs, comings))[job]
        last = comings[job][-1] + times[-1] - first
    return comings, times.index(max(times)), max(times)


def kept_longest(jobs, job):
    if job not in jobs.kept:
        jobs.kept[job] = longest_of(jobs, job)
    return jobs.kept[job]


def longest_answer(jobs, job):
    found = kept_longest(jobs, known_job(jobs, job))
    return None if found is None else found[2]


def worst_comings(jobs, job):
    found = kept_longest(jobs, known_job(jobs, job))
    if found is None:
        return None
    comings, number, _ = found
    return {one: list(comings[one]) for one in comings}, number


def checked_ends(jobs, ends):
    if not isinstance(ends, dict):
        raise BadEnds(None)
    for job in ends:
        if not isinstance(job, str) or job not in jobs.jobs() or not is_integer(ends[job]) or ends[job] < 1:
            raise BadEnds(job)
    return {job: ends[job] for job in ends}


def with_distance(jobs, job, distance):
    table = jobs.jobs()
    table[job] = (table[job][0], distance, table[job][2])
    return Jobs(table)


def do_end(jobs, ends):
    """Whether all longest answers are at most these ends."""
    for job in ends:
        longest = longest_answer(jobs, job)
        if longest is None or longest > ends[job]:
            return False
    return True


def far_enough(jobs, job, ends):
    """A distance of the job behind which no greater one changes an answer of these; None if no load is let."""
    most = 1
    for one in ends:
        others = [other for other in bearing_jobs(jobs, one) if other != job]
        if room_left(jobs, others) <= 0:
            return None
        most = max(most, busy_moments(jobs, others, most_barred(jobs, one) + jobs.cost(job)))
    return most


def least_distance(jobs, job, ends):
    known_job(jobs, job)
    known = checked_ends(jobs, ends)
    borne = {one: known[one] for one in known if job in bearing_jobs(jobs, one)}
    high = far_enough(jobs, job, borne)
    if high is None or not do_end(with_distance(jobs, job, high), known):
        return None
    low = 0
    while high - low > 1:
        middle = (low + high) // 2
        if do_end(with_distance(jobs, job, middle), borne):
            high = middle
        else:
            low = middle
    return high
