"""Point 25: how often a task in a row is passed by."""

import unittest

from meettasks.errors import BadMany, NoTask
from meettasks.passing import are_bounds, most_passed, passing_run
from meettasks.programs import Program
from meettasks.standing import stand_of
from tests.makers import CELL, LOCK, example_26, markets, nest, servers, small_programs
from tests.objects import any_objects, raised
from tests.plain import world_of

BEGIN = ("main", "begin")


class Rows:
    """Where a task is in a row, and how often each step that leaves it there passes it, by plain stepping."""

    def __init__(self, world, program, task):
        self.world = world
        self.task = task
        self.program = program
        self.members = [at for at in range(len(world.runs)) if self.is_in(at)]
        self.goes = {at: [(step, target, self.passes(at, step))
                          for step, target in world.goes[at] if self.is_in(target)] for at in self.members}

    def is_in(self, at):
        return self.world.runs[at].how(self.task) in ("calling", "waiting")

    def passes(self, at, step):
        run = self.world.runs[at]
        owner = self.program.deed(self.task, run.place(self.task))[1]
        new = run.more([step]).events()[len(run.events()):]
        return sum(1 for event in new
                   if event[0] in ("meets", "served") and event[1] != self.task and event[2] == owner)

    def bounds(self):
        """The least bounds, None if there are none."""
        top = sum(many for goes in self.goes.values() for _, _, many in goes) + 1
        bounds = {at: 0 for at in self.members}
        grows = True
        while grows:
            grows = False
            for at in self.members:
                least = max([0] + [min(top, bounds[target] + many) for _, target, many in self.goes[at]])
                if least > bounds[at]:
                    bounds[at] = least
                    grows = True
        return None if top in bounds.values() else bounds

    def first_run(self, many):
        level, seen = [([], 0, 0)], {(0, 0)}
        while level:
            further = []
            for order, at, passed in level:
                for step, target in sorted(self.world.goes[at]):
                    stays = self.is_in(at) and self.is_in(target)
                    now = min(many, passed + self.passes(at, step)) if stays else 0
                    if self.is_in(target) and now >= many:
                        return order + [step]
                    if (target, now) not in seen:
                        seen.add((target, now))
                        further.append((order + [step], target, now))
            level = further
        return None


class PassedTest(unittest.TestCase):

    def test_example(self):
        program = example_26()
        self.assertIsNone(most_passed(program, "x"))
        self.assertEqual(most_passed(task="y", program=program), 1)
        self.assertEqual(most_passed(program, "s"), 0)
        run = passing_run(program, "x", 2)
        self.assertEqual(run, [BEGIN, ("x", "call")] + [("y", "call"), ("s", "arm", 1)] * 2)
        self.assertEqual(passing_run(many=0, task="x", program=program), [BEGIN, ("x", "call")])
        self.assertEqual(len(passing_run(program, "x", 20)), 42)
        self.assertIsNone(passing_run(program, "y", 2))
        self.assertIsNone(passing_run(program, "s", 0))

    def test_two_entries(self):
        program = Program(nest({"x": [("call", "s", "a", [])], "y": [("call", "s", "b", [])],
                                "z": [("call", "s", "b", [])],
                                "s": [("take", "b", []), ("take", "b", []), ("take", "a", [])]}))
        self.assertEqual([most_passed(program, task) for task in "xyz"], [2, 1, 1])

    def test_things_pass_by_all_that_they_serve(self):
        # Who goes on at once passes, too; what comes with one's own going on does not count.
        wait = [("wait", "t", "have")]
        program = Program(nest({"x": wait, "y": wait, "z": [("use", "t", "give")]}), {"t": LOCK})
        self.assertEqual(most_passed(program, "x"), 0)
        program = Program(nest({"x": [("wait", "u", "all")], "y": [("wait", "u", "get")],
                                "z": [("use", "u", "put")] * 2}), {"u": CELL})
        self.assertEqual(most_passed(program, "x"), 1)
        self.assertEqual(passing_run(program, "x", 1)[-1], ("z", "use"))

    def test_it_counts_anew_in_each_row(self):
        tasks = {"x": [("call", "s", "a", []), ("call", "s", "a", [])],
                 "s": [("take", "b", []), ("take", "a", []), ("take", "b", []), ("take", "a", [])],
                 "y": [("call", "s", "b", [])], "z": [("call", "s", "b", [])]}
        program = Program(nest(tasks))
        self.assertEqual(most_passed(program, "x"), 1)
        self.assertIsNone(passing_run(program, "x", 2))

    def test_bounds(self):
        program = example_26()
        keys = [(BEGIN, ("y", "call")), (BEGIN, ("x", "call"), ("y", "call")),
                (BEGIN, ("x", "call"), ("s", "arm", 0), ("y", "call"))]
        self.assertIs(are_bounds(program, "y", {keys[0]: 1, keys[1]: 1, keys[2]: 0}), True)
        self.assertIs(are_bounds(thing={keys[2]: 2, keys[1]: 3, keys[0]: 4}, task="y", program=program), True)
        self.assertIs(are_bounds(program, "y", {keys[0]: 0, keys[1]: 1, keys[2]: 0}), False)
        self.assertIs(are_bounds(program, "y", {keys[0]: 1, keys[1]: 0, keys[2]: 0}), False)
        self.assertIs(are_bounds(program, "y", {keys[0]: 1, keys[1]: 1, keys[2]: 1}), False)
        self.assertIs(are_bounds(program, "y", {keys[0]: 1, keys[1]: 1}), False)
        self.assertIs(are_bounds(program, "y", {keys[0]: 1, keys[1]: 1, keys[2]: 0, (): 0}), False)
        self.assertIs(are_bounds(program, "s", {}), True)
        for thing in any_objects():
            self.assertIs(are_bounds(program, "y", thing), False)
            self.assertIs(are_bounds(program, "y", {keys[0]: 1, keys[1]: thing, keys[2]: 0}),
                          thing == 1 and thing is not True)
            self.assertIs(are_bounds(program, "s", thing), thing == {})

    def test_errors(self):
        program = example_26()
        for thing in any_objects():
            if thing != "main":
                for work, more in ((most_passed, ()), (passing_run, (-1,)), (are_bounds, (None,))):
                    error = raised(work, program, thing, *more)
                    self.assertIsInstance(error, NoTask)
                    self.assertIs(error.task, thing)
            if isinstance(thing, bool) or not isinstance(thing, int) or thing < 0:
                error = raised(passing_run, program, "x", thing)
                self.assertIsInstance(error, BadMany)
                self.assertIs(error.thing, thing)

    def test_by_trying_out(self):
        seen = set()
        for program in (small_programs(25, range(1300, 1700), 40) + [servers(seed) for seed in range(30)]
                        + [markets(seed) for seed in range(30)]):
            world = world_of(program)
            if len(world.runs) <= 50:
                for task in program.tasks():
                    seen.add(self.check(program, world, task))
        self.assertLessEqual({None, 0, 1}, seen)

    def check(self, program, world, task):
        rows = Rows(world, program, task)
        bounds = rows.bounds()
        most = most_passed(program, task)
        self.assertEqual(most, None if bounds is None else max([0] + list(bounds.values())))
        for many in (0, 1, 3):
            run = passing_run(program, task, many)
            self.assertEqual(run, rows.first_run(many))
            if rows.members and most is not None:
                self.assertEqual(run is None, many > most)
        if bounds is not None:
            told = {tuple(world.first(at)): bounds[at] for at in rows.members}
            self.assertTrue(are_bounds(program, task, told))
            for key in told:
                if told[key]:
                    self.assertFalse(are_bounds(program, task, dict(told) | {key: told[key] - 1}))
                self.assertEqual(tuple(world.first(stand_of(program, key))), key)
        return most


if __name__ == "__main__":
    unittest.main()
