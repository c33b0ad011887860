"""Points 61, 63 and 64: longest answers, lower ceilings, more room."""

import random
import unittest
from math import lcm

from meettasks.ceilings import least_ceiling, tangle
from meettasks.errors import BadCeiling, BadEnds, NoThing
from meettasks.jobs import Jobs, answers, done
from meettasks.longest import least_distance, lock_against, longest_answer, most_barred, worst_comings
from tests.jobmakers import PlainClock, all_comings, example_65, made_up_jobs, units_along
from tests.objects import any_objects, raised


def load_over(jobs, job):
    """By how much the load of a job and all of greater priority is above 1, in a common part of whole numbers."""
    table = jobs.jobs()
    some = [one for one in table if table[one][0] >= table[job][0]]
    whole = 1
    for one in some:
        whole *= table[one][1]
    return sum(jobs.cost(one) * whole // table[one][1] for one in some) - whole


def load_above_one(jobs, job):
    return load_over(jobs, job) > 0


def load_is_one(jobs, job):
    return load_over(jobs, job) == 0


class LongestTest(unittest.TestCase):

    def test_example(self):
        jobs = example_65()
        self.assertEqual([longest_answer(jobs, job) for job in "hml"], [4, 8, 19])
        for job in "hml":
            self.check_worst(jobs, job)
        self.assertEqual(worst_comings(job="h", jobs=jobs), worst_comings(jobs, "h"))

    def check_worst(self, jobs, job):
        longest = longest_answer(jobs, job)
        found = worst_comings(jobs, job)
        if longest is None:
            self.assertIsNone(found)
            return None
        comings, number = found
        self.assertEqual([type(found), list(comings)], [tuple, sorted(comings)])
        self.assertTrue(all(isinstance(comings[one], list) for one in comings))
        told = answers(jobs, comings)[job]
        self.assertEqual(told[number], longest)
        self.assertEqual(PlainClock(jobs, comings).answer(job, number, comings[job][number]), longest)
        return number

    def test_no_longest_just_if_the_load_is_above_one(self):
        found = set()
        for seed in range(150):
            jobs = made_up_jobs(seed, many=seed % 3 + 1)
            for job in jobs.jobs():
                above = load_above_one(jobs, job)
                self.assertEqual(longest_answer(jobs, job) is None, above)
                number = self.check_worst(jobs, job)
                found.add("above" if above else "one" if load_is_one(jobs, job) else "below")
                if number:
                    found.add("not the first")
                if load_is_one(jobs, job) and most_barred(jobs, job):
                    found.add("no end")
        self.assertEqual(found, {"above", "one", "below", "not the first", "no end"})

    def test_none_is_longer(self):
        luck = random.Random(3)
        reached = 0
        for seed in range(80):
            jobs = made_up_jobs(seed, many=seed % 3 + 1, most=2)
            best = {}
            for comings in all_comings(jobs, 13, 250, luck):
                for job, times in answers(jobs, comings).items():
                    best[job] = max([best.get(job, 0)] + times)
            for job in jobs.jobs():
                longest = longest_answer(jobs, job)
                if longest is not None:
                    self.assertLessEqual(best[job], longest)
                    reached += best[job] == longest
        self.assertGreater(reached, 80)

    def test_small_jobs_all_comings(self):
        for table in ({"a": (1, 4, [("t", [2])]), "b": (2, 5, [1, ("t", [1])])},
                      {"a": (1, 7, [1, ("t", [3])]), "b": (2, 3, [("t", [1])]), "c": (3, 6, [1])},
                      {"a": (1, 4, [("t", [2])]), "b": (2, 4, [("t", [2])])},
                      {"a": (1, 6, [("t", [3])]), "b": (3, 4, [("t", [2])]), "c": (2, 4, [("u", [2])])},
                      {"a": (2, 6, [1, ("t", [2])]), "b": (3, 4, [1, ("t", [1])]), "c": (1, 60, [("t", [2])])}):
            jobs = Jobs(table)
            best = dict.fromkeys(table, 0)
            for comings in all_comings(jobs, 13, 20000, random.Random(0)):
                told = answers(jobs, comings)
                for job in best:
                    best[job] = max([best[job]] + told[job])
            for job in table:
                longest = longest_answer(jobs, job)
                if longest is not None:
                    self.assertEqual(best[job], longest)

    def test_a_stretch_without_end(self):
        # At a load of one, behind a lock, others go on coming till all of so many moments are answered.
        behind = 0
        for seed in range(600):
            jobs = made_up_jobs(seed, many=seed % 3 + 2)
            for job in jobs.jobs():
                if load_is_one(jobs, job) and most_barred(jobs, job):
                    behind += self.check_endless(jobs, job)
        self.assertGreater(behind, 3)

    def check_endless(self, jobs, job):
        table = jobs.jobs()
        other, path = lock_against(jobs, job)
        rows = units_along(table[other][2])
        start = [at for at, row in enumerate(rows) if path in [one for _, one in row]][0] + 1
        some = [one for one in table if table[one][0] >= table[job][0]]
        whole = lcm(*[table[one][1] for one in some])
        comings = {one: [start + turn * table[one][1] for turn in range(4 * whole // table[one][1])] for one in some}
        comings[other] = [0]
        times = answers(jobs, comings)[job][:whole // table[job][1]]
        self.assertEqual(longest_answer(jobs, job), max(times))
        return comings[job][len(times) - 1] + times[-1] > start + whole

    def test_told_anew(self):
        jobs = example_65()
        worst_comings(jobs, "m")[0].clear()
        worst_comings(jobs, "m")[0]["h"].clear()
        self.check_worst(jobs, "m")

    def test_at_the_limits(self):
        table = {"a": (5, 10, [1]), "b": (4, 50, [("t", [4]), 1]), "c": (3, 100, [("u", [10, ("t", [5, ("v", [2])])])]),
                 "d": (2, 200, [30]), "e": (1, 200, [("u", [("t", [("v", [30])])])])}
        jobs = Jobs(table)
        for job in table:
            self.check_worst(jobs, job)
        # A load of one that has no end: a thousand moments are looked at.
        jobs = Jobs({"a": (3, 8, [("t", [4])]), "b": (2, 125, [("t", [30])]), "c": (1, 200, [("t", [29]), 1])})
        self.check_worst(jobs, "b")
        full = Jobs({"a": (2, 2, [1]), "b": (1, 2000, [("t", [1])] * 30), "c": (3, 200, [3]), "d": (4, 40, [1])})
        self.check_worst(full, "b")


class TangleTest(unittest.TestCase):

    def test_example(self):
        jobs = example_65()
        self.assertEqual(tangle(jobs, "t", 2), {"h": [2], "l": [0]})
        self.assertEqual([least_ceiling(jobs, "t"), least_ceiling(thing="t", jobs=jobs)], [3, 3])
        self.assertIsNone(tangle(ceiling=3, thing="t", jobs=jobs))
        alone = Jobs({"a": (4, 9, [("t", [3])]), "b": (5, 9, [2])})
        self.assertEqual([least_ceiling(alone, "t"), tangle(alone, "t", 0)], [0, None])

    def test_below_the_greatest_user(self):
        units = Jobs({"h": (5, 9, [("t", [1])]), "l": (1, 9, [("t", [1])])})
        self.assertEqual(least_ceiling(units, "t"), 0)
        within = Jobs({"h": (5, 9, [("u", [("t", [1])])]), "l": (1, 9, [("u", [("t", [2])])])})
        self.assertEqual([least_ceiling(within, "t"), least_ceiling(within, "u")], [0, 0])
        within = Jobs({"h": (5, 9, [("u", [("t", [1])])]), "l": (1, 9, [("u", [("t", [2]), 1])])})
        self.assertEqual([least_ceiling(within, "t"), least_ceiling(within, "u")], [0, 5])
        middle = Jobs({"h": (5, 9, [("t", [1])]), "m": (3, 9, [("t", [2])]), "l": (1, 9, [("u", [("t", [2]), 1])]),
                       "k": (4, 9, [("u", [1])])})
        self.assertEqual(least_ceiling(middle, "t"), 5)

    def test_by_stepping(self):
        luck = random.Random(4)
        lower = set()
        for seed in range(60):
            jobs = made_up_jobs(seed, many=3)
            for thing in [thing for thing in "tu" if raised(jobs.ceiling, thing) is None]:
                least = least_ceiling(jobs, thing)
                lower.add(least - jobs.ceiling(thing) if least else "nothing")
                for ceiling in range(10):
                    comings = tangle(jobs, thing, ceiling)
                    self.assertEqual(comings is None, ceiling >= least)
                    if comings is not None:
                        self.assertEqual(list(comings), sorted(comings))
                        self.assertIsNone(raised(done, jobs, comings))
                        clock = PlainClock(jobs, comings, {thing: ceiling})
                        self.assertIn(thing, [one for _, one in clock.tangles])
                    else:
                        for some in all_comings(jobs, 12, 6, luck):
                            clock = PlainClock(jobs, some, {thing: ceiling})
                            self.assertNotIn(thing, [one for _, one in clock.tangles])
        self.assertLessEqual({0, "nothing"}, lower)

    def test_errors(self):
        jobs = example_65()
        for thing in any_objects():
            for work, more in ((tangle, (None,)), (least_ceiling, ())):
                error = raised(work, jobs, thing, *more)
                self.assertIsInstance(error, NoThing)
                self.assertIs(error.thing, thing)
            if type(thing) is not int or thing < 0:
                error = raised(tangle, jobs, "t", thing)
                self.assertIsInstance(error, BadCeiling)
                self.assertIs(error.ceiling, thing)
        self.assertIsNone(tangle(jobs, "t", 10 ** 30))


class DistanceTest(unittest.TestCase):

    def test_example(self):
        self.assertEqual(least_distance(example_65(), "h", {"m": 7}), 6)
        self.assertEqual(least_distance(ends={"m": 7}, job="h", jobs=example_65()), 6)
        self.assertIsNone(least_distance(example_65(), "h", {"m": 5}))
        self.assertEqual(least_distance(example_65(), "h", {}), 1)
        self.assertEqual(least_distance(Jobs({"a": (5, 9, [1]), "b": (2, 9, [1])}), "a", {"a": 1}), 1)
        locked = Jobs({"a": (5, 9, [("t", [1])]), "b": (2, 9, [("t", [3])])})
        self.assertEqual([least_distance(locked, "a", {"a": end}) for end in (2, 3, 4)], [None, 1, 1])

    def with_distance(self, jobs, job, distance):
        table = jobs.jobs()
        return Jobs({**table, job: (table[job][0], distance, table[job][2])})

    def does_end(self, jobs, ends):
        return all(longest_answer(jobs, job) is not None and longest_answer(jobs, job) <= ends[job] for job in ends)

    def test_by_trying_all(self):
        luck = random.Random(5)
        found = set()
        for seed in range(60):
            jobs = made_up_jobs(seed, many=3, most=2)
            for job in jobs.jobs():
                some = luck.sample(sorted(jobs.jobs()), luck.randint(1, 3))
                ends = {one: luck.randint(jobs.cost(one), 4 * jobs.cost(one) + 6) for one in some}
                told = least_distance(jobs, job, ends)
                tried = [distance for distance in range(1, 61)
                         if self.does_end(self.with_distance(jobs, job, distance), ends)]
                self.assertEqual(told, tried[0] if tried else None)
                # What is enough stays enough.
                self.assertEqual(tried, list(range(told, 61)) if told else [])
                found.add(told)
        self.assertGreater(len(found), 5)
        self.assertIn(None, found)

    def test_great_distances(self):
        jobs = Jobs({"a": (3, 5, [2]), "b": (2, 1000000, [30]), "c": (1, 200, [10])})
        told = least_distance(jobs, "b", {"c": 68})
        self.assertEqual(told, [distance for distance in range(1, 300)
                                if self.does_end(self.with_distance(jobs, "b", distance), {"c": 68})][0])
        self.assertIsNone(least_distance(jobs, "b", {"c": 67}))
        # The load of all others is one already: no distance does.
        full = Jobs({"a": (3, 5, [5]), "b": (2, 50, [1]), "c": (1, 9, [1])})
        self.assertIsNone(least_distance(full, "c", {"c": 10 ** 6}))
        self.assertIsNone(least_distance(full, "b", {"b": 10 ** 6}))
        self.assertEqual(least_distance(full, "b", {"a": 5}), 1)
        self.assertIsNone(least_distance(full, "b", {"a": 4}))
        self.assertEqual(least_distance(full, "a", {"a": 5}), 5)

    def test_errors(self):
        jobs = example_65()
        for thing in any_objects():
            if thing != {}:
                error = raised(least_distance, jobs, "h", thing)
                self.assertIsInstance(error, BadEnds)
                if not isinstance(thing, dict):
                    self.assertIsNone(error.job)
            if type(thing) is not int or thing < 1:
                self.assertEqual(raised(least_distance, jobs, "h", {"m": 4, "l": thing, "z": 1}).job, "l")
        self.assertEqual(raised(least_distance, jobs, "h", {"m": 4, "z": 1, "l": 0}).job, "z")

    def test_more_room_lengthens_none(self):
        for seed in range(40):
            jobs = made_up_jobs(seed, many=3)
            for job in jobs.jobs():
                wider = self.with_distance(jobs, job, jobs.jobs()[job][1] + 1)
                for other in jobs.jobs():
                    if longest_answer(jobs, other) is not None:
                        self.assertLessEqual(longest_answer(wider, other), longest_answer(jobs, other))


if __name__ == "__main__":
    unittest.main()
