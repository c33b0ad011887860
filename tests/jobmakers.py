"""Jobs for tests: those of point 65, made up ones; own counts of units, moment by moment."""

import random
from itertools import product

from meettasks.errors import BadJobs
from meettasks.jobs import Jobs


def example_65():
    return Jobs({"h": (3, 5, [1, ("t", [1])]), "m": (2, 7, [2]), "l": (1, 20, [1, ("t", [3]), 1])})


def made_up_jobs(seed, many=3, most=3, deep=2):
    """So many jobs of a few units, distances that mostly let them all be done."""
    luck = random.Random(seed)

    def parts(left, around):
        found = []
        for _ in range(luck.randint(1, 2)):
            things = [thing for thing in "tu" if thing not in around]
            if left and things and luck.random() < 0.55:
                thing = luck.choice(things)
                found.append((thing, parts(left - 1, around + [thing])))
            else:
                found.append(luck.randint(1, most))
        return found

    table = {}
    for priority, job in zip(luck.sample(range(1, 9), many), "abcde"):
        table[job] = (priority, 0, parts(deep, []))
    for job in table:
        cost = Jobs({job: (1, 1, table[job][2])}).cost(job)
        table[job] = (table[job][0], luck.randint(cost, cost * (many + 1)), table[job][2])
    try:
        return Jobs(table)
    except BadJobs:
        return made_up_jobs(seed + 10000, many, most, deep)


def units_along(body, around=()):
    """For each unit of a body the parts with things within which it is done, outermost first, by their paths."""
    found = []
    for at, part in enumerate(body):
        if isinstance(part, int):
            found += [around] * part
        else:
            path = around[-1][1] if around else ()
            found += units_along_in(part, at, around, path)
    return found


def units_along_in(part, at, around, path):
    found = []
    here = around + ((part[0], path + (at,)),)
    for number, inner in enumerate(part[1]):
        if isinstance(inner, int):
            found += [here] * inner
        else:
            found += units_along_in(inner, number, here, here[-1][1])
    return found


def inside(rows, done):
    """The parts that a job is inside when it has done so many units: some unit of theirs, and not all."""
    return [part for part in dict.fromkeys(part for row in rows for part in row)
            if any(part in row for row in rows[:done]) and any(part in row for row in rows[done:])]


class PlainClock:
    """Own stepping of comings, by the words of point 59; tangles are units of things that another one is inside."""

    def __init__(self, jobs, comings, ceilings=None):
        table = jobs.jobs()
        self.rows = {job: units_along(table[job][2]) for job in table}
        users = {}
        for job in table:
            for row in self.rows[job]:
                for thing, _ in row:
                    users[thing] = max(users.get(thing, 0), table[job][0])
        users.update(ceilings or {})
        left = {job: list(enumerate(comings.get(job, []))) for job in table}
        progress = dict.fromkeys(table, 0)
        self.row, self.tangles = [], []
        while any(left.values()):
            moment = len(self.row)
            best = None
            for job in table:
                if left[job] and left[job][0][1] <= moment:
                    held = inside(self.rows[job], progress[job])
                    now = max([table[job][0]] + [users[thing] for thing, _ in held])
                    if best is None or (now, bool(held)) > best[:2]:
                        best = (now, bool(held), job)
            if best is None:
                self.row.append(None)
                continue
            job = best[2]
            for thing, _ in self.rows[job][progress[job]]:
                for other in table:
                    if other != job and thing in [one for one, _ in inside(self.rows[other], progress[other])]:
                        self.tangles.append((moment, thing))
            self.row.append((job, left[job][0][0]))
            progress[job] += 1
            if progress[job] == len(self.rows[job]):
                progress[job] = 0
                left[job].pop(0)

    def answer(self, job, number, coming):
        return max(at for at, unit in enumerate(self.row) if unit == (job, number)) + 1 - coming


def all_moments(distance, window):
    """All ascending lists of moments below window, as far apart as distance."""
    found = [[]]
    for row in found:
        found += [row + [moment] for moment in range(row[-1] + distance if row else 0, window)]
    return found


def all_comings(jobs, window, most, luck):
    """All comings within a window, or so many of them."""
    table = jobs.jobs()
    lots = [all_moments(table[job][1], window) for job in table]
    many = 1
    for lot in lots:
        many *= len(lot)
    if many <= most:
        return [dict(zip(table, rows)) for rows in product(*lots)]
    return [{job: luck.choice(lot) for job, lot in zip(table, lots)} for _ in range(most)]
