"""Points 20 and 21: waiting, moving, stuck ones, standstills."""

import unittest

from meettasks.errors import NoTask
from meettasks.programs import Program
from meettasks.runs import Run
from meettasks.waits import first_standstill, first_stuck, stuck
from tests.makers import LOCK, example_26, example_26_less, markets, nest, servers, small_programs
from tests.objects import any_objects, raised
from tests.plain import moves, reached_from, waits, world_of

BEGIN = ("main", "begin")


class StuckTest(unittest.TestCase):

    def test_stuck_behind_a_last_caller(self):
        program = example_26_less()
        run = Run(program, [BEGIN, ("y", "call"), ("s", "arm", 1)])
        self.assertEqual(stuck(run), ["main", "s"])
        self.assertEqual(stuck(run=Run(program, [BEGIN])), ["main"])
        self.assertEqual(first_stuck(program, "s"), run.steps())
        self.assertEqual(first_stuck(task="main", program=program), [BEGIN])
        self.assertIsNone(first_stuck(program, "y"))
        self.assertEqual(first_standstill(program), run.steps())

    def test_who_goes_on_for_ever_is_not_stuck(self):
        program = example_26()
        for task in program.tasks():
            self.assertEqual(first_stuck(program, task) is None, task in ("x", "y", "s"))
        self.assertIsNone(first_standstill(program))

    def test_whoever_is_aborted_or_broken_is_moved(self):
        program = Program(nest({"a": [("take", "e", [])], "z": [("abort", "a")]}))
        self.assertEqual(stuck(Run(program, [BEGIN])), [])
        program = Program(nest({"a": [("call", "s", "e", [])],
                                "s": [("note", "x"), ("if", "f", [("take", "e", [])], [])]}))
        self.assertEqual(stuck(Run(program, [BEGIN, ("a", "call")])), [])

    def test_a_closing_one(self):
        program = Program(nest({"a": [("wait", "t", "have"), ("wait", "t", "have")]}), {"t": LOCK})
        run = Run(program, [BEGIN, ("a", "wait"), ("a", "wait")])
        self.assertEqual(stuck(run), ["a", "main"])
        self.assertEqual(first_standstill(program=program), run.steps())
        self.assertIsNone(first_standstill(Program([])))

    def test_no_task(self):
        program = example_26()
        for task in any_objects():
            if task != "main":
                error = raised(first_stuck, program, task)
                self.assertIsInstance(error, NoTask)
                self.assertIs(error.task, task)

    def test_by_trying_out(self):
        found = 0
        for program in (small_programs(25, range(300), 60) + [servers(seed) for seed in range(25)]
                        + [markets(seed) for seed in range(15)]):
            world = world_of(program)
            if len(world.runs) <= 60:
                found += self.check(program, world)
        self.assertGreater(found, 100)

    def check(self, program, world):
        tasks = program.tasks()
        firsts = {}
        for at, run in enumerate(world.runs):
            ahead = reached_from(world, at)
            want = sorted(task for task in tasks if waits(world, at, task) and not any(
                moves(world, one, step, target, task) for one in ahead for step, target in world.goes[one]))
            self.assertEqual(stuck(run), want)
            for task in want:
                firsts.setdefault(task, run.steps())
            # At a standstill all who are there, and have not ended, are stuck.
            if not world.goes[at] and run.how("main") != "ended":
                self.assertEqual(want, sorted(task for task in tasks if run.how(task) not in ("absent", "ended")))
                firsts.setdefault("", run.steps())
        for task in tasks:
            self.assertEqual(first_stuck(program, task), firsts.get(task))
        self.assertEqual(first_standstill(program), firsts.get(""))
        return len(firsts)


if __name__ == "__main__":
    unittest.main()
