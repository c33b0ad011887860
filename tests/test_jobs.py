"""Points 58 to 60 and 62: jobs, what comings do, locks, breakdowns."""

import random
import unittest

from meettasks.errors import BadComings, BadJobs, BadNumber, NoJob, NoThing
from meettasks.jobs import Jobs, answers, breakdown, done
from meettasks.longest import least_distance, lock_against, longest_answer, most_barred, worst_comings
from tests.jobmakers import PlainClock, all_comings, example_65, inside, made_up_jobs, units_along
from tests.objects import any_objects, raised

COMINGS = {"l": [0], "h": [2, 7], "m": [2]}


class JobsTest(unittest.TestCase):

    def test_example(self):
        jobs = example_65()
        self.assertEqual([jobs.ceiling("t"), jobs.cost("h"), jobs.cost(job="l")], [3, 2, 5])
        self.assertEqual(jobs.jobs(), {"h": (3, 5, (1, ("t", (1,)))), "l": (1, 20, (1, ("t", (3,)), 1)),
                                       "m": (2, 7, (2,))})
        self.assertEqual(list(jobs.jobs()), ["h", "l", "m"])
        jobs.jobs().clear()
        self.assertEqual(len(jobs.jobs()), 3)

    def test_equal(self):
        as_lists = Jobs(jobs={"m": [2, 7, (2,)], "l": [1, 20, [1, ["t", (3,)], 1]], "h": (3, 5, (1, ["t", [1]]))})
        self.assertEqual(as_lists, example_65())
        self.assertNotEqual(as_lists, Jobs({"h": (3, 5, [1])}))
        self.assertNotEqual(Jobs({"h": (3, 5, [2])}), Jobs({"h": (3, 5, [1, 1])}))
        for thing in any_objects() + [as_lists.jobs()]:
            self.assertFalse(as_lists == thing)

    def test_costs_and_ceilings(self):
        for seed in range(40):
            jobs = made_up_jobs(seed)
            table = jobs.jobs()
            rows = {job: units_along(table[job][2]) for job in table}
            for job in table:
                self.assertEqual(jobs.cost(job), len(rows[job]))
            for thing in "tu":
                users = [table[job][0] for job in table if any(thing in dict(row) for row in rows[job])]
                if users:
                    self.assertEqual(jobs.ceiling(thing), max(users))
                else:
                    self.assertIsInstance(raised(jobs.ceiling, thing), NoThing)

    def test_errors(self):
        for thing in any_objects():
            error = raised(Jobs, thing)
            self.assertIsInstance(error, BadJobs)
            if not isinstance(thing, dict) or not thing:
                self.assertIsNone(error.job)
        good = (2, 3, [1])
        bad = [(0, 3, [1]), (1, 0, [1]), (1, 3, []), (1, 3, [0]), (1, 3, [True]), (True, 3, [1]), (1, None, [1]),
               (1, 3), (1, 3, [1], 0), (1, 3, [[]]), (1, 3, [("t", [])]), (1, 3, [("t", [1], 1)]), (1, 3, [("T", [1])]),
               (1, 3, [("t", 1)]), (1, 3, ["t"]), (1, 3, [("t", [("t", [1])])]),
               (1, 3, [("t", [("u", [1, ("t", [1])])])]),
               (1, 3, 1), (1, 3, {1: 1}), None, (2, 9, [1]), (1, 3, [-1]), (1, 3, [1, None]), (1, 3, [("t", [1, 0])])]
        for worth in bad:
            error = raised(Jobs, {"z": good, "b": worth, "A": None})
            self.assertIsInstance(error, BadJobs)
            self.assertEqual(error.job, "b")
        for key in ("A", 3, None, "", ("a",), "longwordx"):
            error = raised(Jobs, {key: good, "b": None})
            self.assertEqual(error.job, key)
        # Beside one another the same thing may stand.
        self.assertEqual(Jobs({"b": (1, 3, [("t", [1]), ("t", [1, ("u", [2])])])}).cost("b"), 4)

    def test_no_job(self):
        jobs = example_65()
        for thing in any_objects() + ["t"]:
            for work, parts in ((jobs.cost, (thing,)), (most_barred, (jobs, thing)), (lock_against, (jobs, thing)),
                                (longest_answer, (jobs, thing)), (worst_comings, (jobs, thing)),
                                (least_distance, (jobs, thing, None)), (breakdown, (jobs, None, thing, None))):
                error = raised(work, *parts)
                self.assertIsInstance(error, NoJob)
                self.assertIs(error.job, thing)
            if thing != "t":
                error = raised(jobs.ceiling, thing)
                self.assertIsInstance(error, NoThing)
                self.assertIs(error.thing, thing)


class DoneTest(unittest.TestCase):

    def test_example(self):
        row = [unit[0] for unit in done(example_65(), COMINGS)]
        self.assertEqual("".join(row), "llllhhmhhml")
        self.assertEqual(done(comings=COMINGS, jobs=example_65())[4], ("h", 0))
        self.assertEqual(done(example_65(), COMINGS)[7], ("h", 1))
        told = answers(comings={"l": (0,), "h": (2, 7), "m": [2]}, jobs=example_65())
        self.assertEqual(told, {"h": [4, 2], "l": [11], "m": [8]})
        self.assertEqual(list(told), ["h", "l", "m"])
        self.assertEqual(breakdown(example_65(), COMINGS, "m", 0), {"h": 4, "l": 2, "m": 2})
        self.assertEqual(list(breakdown(number=0, job="m", comings=COMINGS, jobs=example_65())), ["h", "l", "m"])

    def test_nobody_works(self):
        self.assertEqual(done(example_65(), {}), [])
        self.assertEqual(answers(example_65(), {"m": [], "h": [3]}), {"h": [2], "m": []})
        self.assertEqual(done(example_65(), {"m": [], "h": [3]}), [None] * 3 + [("h", 0)] * 2)
        self.assertEqual(breakdown(example_65(), {"h": [3, 8]}, "h", 1), {"h": 2})

    def test_own_comings_in_order(self):
        jobs = Jobs({"a": (1, 1, [2]), "b": (2, 3, [1])})
        self.assertEqual(done(jobs, {"a": [0, 1, 2], "b": [1]}),
                         [("a", 0), ("b", 0), ("a", 0), ("a", 1), ("a", 1), ("a", 2), ("a", 2)])
        self.assertEqual(answers(jobs, {"a": [0, 1, 2], "b": [1]}), {"a": [3, 4, 5], "b": [1]})

    def test_who_is_inside_goes_ahead(self):
        # The ceiling is the priority of who comes: the one that is inside the thing goes on.
        jobs = Jobs({"h": (2, 9, [("t", [1])]), "l": (1, 9, [("t", [2]), 1])})
        self.assertEqual(done(jobs, {"h": [1], "l": [0]}), [("l", 0), ("l", 0), ("h", 0), ("l", 0)])
        # At the part's first unit it is not inside yet.
        self.assertEqual(done(jobs, {"h": [0], "l": [0]})[0], ("h", 0))

    def test_by_stepping(self):
        luck = random.Random(1)
        for seed in range(60):
            jobs = made_up_jobs(seed, many=seed % 4 + 1)
            for comings in all_comings(jobs, 14, 12, luck):
                clock = PlainClock(jobs, comings)
                self.assertEqual(done(jobs, comings), clock.row)
                self.assertEqual(clock.tangles, [])
                told = answers(jobs, comings)
                for job in comings:
                    self.assertEqual(told[job], [clock.answer(job, number, coming)
                                                 for number, coming in enumerate(comings[job])])
                    self.check_breakdowns(jobs, comings, job, told, clock)

    def check_breakdowns(self, jobs, comings, job, told, clock):
        table = jobs.jobs()
        for number, coming in enumerate(comings[job]):
            units = breakdown(jobs, comings, job, number)
            row = clock.row[coming:coming + told[job][number]]
            self.assertEqual(units, {one: len([unit for unit in row if unit and unit[0] == one]) for one in sorted(
                {unit[0] for unit in row if unit})})
            self.assertEqual(sum(units.values()), told[job][number])
            lesser = [unit for unit in row if table[unit[0]][0] < table[job][0]]
            self.assertLessEqual(len(lesser), most_barred(jobs, job))
            self.assertLessEqual(len(set(lesser)), 1)

    def test_errors(self):
        jobs = example_65()
        for thing in any_objects():
            if thing != {}:
                for work, more in ((done, ()), (answers, ()), (breakdown, ("h", 0))):
                    error = raised(work, jobs, thing, *more)
                    self.assertIsInstance(error, BadComings)
                    if not isinstance(thing, dict):
                        self.assertIsNone(error.job)
            if type(thing) is not int or not 0 <= thing < 2:
                error = raised(breakdown, jobs, COMINGS, "h", thing)
                self.assertIsInstance(error, BadNumber)
                self.assertIs(error.number, thing)
        for comings, job in (({"h": [0], "m": [0, 6], "z": []}, "m"), ({"z": [], "h": None}, "z"), ({"h": [-1]}, "h"),
                             ({"h": [True]}, "h"), ({"m": [], "h": [0, None]}, "h"), ({"h": [5, 0]}, "h"),
                             ({"h": 0}, "h"), ({"h": {0: 1}}, "h"), ({None: []}, None), ({"h": [0, 5, 9]}, "h")):
            self.assertEqual(raised(done, jobs, comings).job, job)
        self.assertIsInstance(raised(breakdown, jobs, {"h": [0]}, "m", 0), BadNumber)
        self.assertIsInstance(raised(breakdown, jobs, {"h": [0], "m": []}, "m", 0), BadNumber)
        self.assertIsInstance(raised(breakdown, jobs, {"h": [1, 0]}, "m", 7), BadComings)


class LocksTest(unittest.TestCase):

    def test_example(self):
        jobs = example_65()
        self.assertEqual([most_barred(jobs, job) for job in "hml"], [2, 2, 0])
        self.assertEqual([lock_against(jobs, job) for job in "hml"], [("l", (1,)), ("l", (1,)), None])
        self.assertEqual([most_barred(job="h", jobs=jobs), lock_against(job="h", jobs=jobs)], [2, ("l", (1,))])

    def test_the_outermost(self):
        jobs = Jobs({"h": (5, 90, [("u", [1])]), "m": (3, 90, [("t", [1])]),
                     "l": (1, 90, [2, ("t", [1, ("u", [3]), 1]), ("u", [2])])})
        self.assertEqual([most_barred(jobs, job) for job in "hm"], [2, 4])
        self.assertEqual([lock_against(jobs, job) for job in "hm"], [("l", (1, 1)), ("l", (1,))])
        single = Jobs({"h": (2, 9, [("t", [1])]), "l": (1, 9, [("t", [1])])})
        self.assertEqual([most_barred(single, "h"), lock_against(single, "h")], [0, ("l", (0,))])

    def test_by_stepping(self):
        luck = random.Random(2)
        most_seen = set()
        for seed in range(60):
            jobs = made_up_jobs(seed)
            table = jobs.jobs()
            for job in table:
                lock = lock_against(jobs, job)
                if lock is None:
                    self.assertEqual(most_barred(jobs, job), 0)
                    continue
                other, path = lock
                rows = units_along(table[other][2])
                units = [at for at, row in enumerate(rows) if path in [one for _, one in row]]
                self.assertEqual(len(units) - 1, most_barred(jobs, job))
                # There are comings in which they do just so many: it comes when the first one is done.
                first = units[0] + 1
                comings = {other: [0], job: [first]}
                told = breakdown(jobs, comings, job, 0)
                self.assertEqual(told.get(other, 0), most_barred(jobs, job))
                self.assertLess(table[other][0], table[job][0])
                most_seen.add(most_barred(jobs, job))
                if len(units) > 1:
                    self.assertTrue(inside(rows, first))
            for comings in all_comings(jobs, 10, 10, luck):
                for job in comings:
                    for number in range(len(comings[job])):
                        told = breakdown(jobs, comings, job, number)
                        self.assertLessEqual(sum(told[one] for one in told if table[one][0] < table[job][0]),
                                             most_barred(jobs, job))
        self.assertGreater(len(most_seen), 4)


if __name__ == "__main__":
    unittest.main()
