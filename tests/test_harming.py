"""Point 31: by whose strikes a task can wait for ever."""

import unittest

from meettasks.errors import BadKind, BadTasks, NoTask
from meettasks.harming import harmed, harms, is_harm
from meettasks.lassos import waits_for_ever
from meettasks.programs import Program
from meettasks.strikes import StruckRun
from tests.makers import LOCK, example_33, made_up, markets, nest, servers
from tests.objects import any_objects, raised
from tests.plain import World, can_go_on, is_plain_lasso, waiting_goes, world_of
from tests.test_strikes import lots_of

BEGIN = ("main", "begin")
KINDS = ("any", "weak", "strong")


class HarmTest(unittest.TestCase):

    def test_example(self):
        program = example_33()
        for kind in KINDS:
            self.assertEqual(harms(program, ["x", "y"], "y", kind), [("x",)])
            told = ([BEGIN, ("x", "wait"), ("y", "wait"), ("x", "struck")], [])
            self.assertIs(is_harm(program, ["x", "y"], "y", kind, ["x"], told), True)
            self.assertIs(is_harm(program, ["x", "y"], "y", kind, [], told), False)
            self.assertIs(is_harm(program, ["x", "y"], "y", kind, ["x", "y"], told), False)
            steps, ring = harmed(program, ("x", "y"), "y", kind, ("x",))
            self.assertIsInstance(steps, list)
            self.assertIs(is_harm(program, ["x", "y"], "y", kind, ["x"], [steps, ring]), True)
            self.assertIsNone(harmed(program, ["x", "y"], "y", kind, []))

    def test_without_strikes_and_never(self):
        program = Program(nest({"x": [("take", "e", [])], "y": [("note", "n")]}))
        self.assertEqual(harms(program, ["y"], "x", "weak"), [()])
        self.assertEqual(harms(program, ["x"], "y", "weak"), [])
        self.assertEqual(harms(kind="weak", task="main", strikable=["x"], program=program), [()])

    def test_a_further_strike_can_free(self):
        # Without s's end z's call stays in its row; broken by it z gives for ever.
        tasks = {"x": [("wait", "t", "have"), ("use", "t", "give")], "y": [("wait", "t", "have"), ("note", "n")],
                 "s": [("take", "k", []), ("take", "e", [])],
                 "z": [("call", "s", "e", [("again", [("use", "t", "give")])])]}
        program = Program(nest(tasks), {"t": LOCK})
        self.assertEqual(harms(program, ["s", "x"], "y", "weak"), [("x",)])
        self.assertIsNotNone(harmed(program, ["s", "x"], "y", "weak", ["x"]))
        self.assertIsNone(harmed(program, ["s", "x"], "y", "weak", ["x", "s"]))

    def test_two_are_wanted(self):
        tasks = {"x": [("wait", "t", "have"), ("use", "t", "give"), ("take", "e", [])],
                 "y": [("wait", "t", "have"), ("use", "t", "give")], "z": [("call", "x", "e", [("use", "t", "give")])]}
        program = Program(nest(tasks), {"t": LOCK})
        self.assertEqual(harms(program, ["z", "x"], "y", "any"), [("x", "z")])
        self.assertIsNone(harmed(program, ["z", "x"], "y", "any", ["x"]))

    def test_the_task_itself_stands_there_anew(self):
        program = Program([("again", nest({"a": [("pick", [[], [("take", "e", [])]])]}))])
        self.assertIsNotNone(harmed(program, ["a"], "a", "strong", ["a"]))
        self.assertEqual(harms(program, ["a"], "a", "strong"), [()])

    def test_errors(self):
        program = example_33()
        for work, more in ((harms, ()), (harmed, (None,)), (is_harm, (None, None))):
            for thing in any_objects():
                if thing not in ([], ()):
                    self.assertIsInstance(raised(work, program, thing, None, None, *more), BadTasks)
                if thing != "main":
                    error = raised(work, program, ["x"], thing, None, *more)
                    self.assertIsInstance(error, NoTask)
                    self.assertIs(error.task, thing)
                if thing != "weak":
                    error = raised(work, program, ["x"], "y", thing, *more)
                    self.assertIsInstance(error, BadKind)
                    self.assertIs(error.kind, thing)
            self.assertEqual(raised(work, program, ["x", "main"], "y", "weak", *more).index, 1)
        for work, more in ((harmed, ()), (is_harm, (None,))):
            for thing in any_objects():
                if thing not in ([], ()):
                    self.assertIsInstance(raised(work, program, ["x"], "y", "weak", thing, *more), BadTasks)
            for lot, index in ((["x", "x"], 1), (["y"], 0), ("x", 0), (("x", "main"), 1), (None, 0)):
                self.assertEqual(raised(work, program, ["x"], "y", "weak", lot, *more).index, index)

    def test_any_objects(self):
        program = example_33()
        for thing in any_objects():
            self.assertIs(is_harm(program, ["x"], "y", "any", ["x"], thing), False)
            self.assertIs(is_harm(program, ["x"], "y", "any", ["x"], ([BEGIN, thing], [])), False)

    def test_strikes_are_no_steps_of_the_ring(self):
        program = Program(nest({"x": [("take", "e", [])], "a": [("again", [("note", "n")])]}))
        told = ([BEGIN, ("a", "struck")], [])
        self.assertTrue(is_harm(program, ["a"], "x", "weak", ["a"], told))
        self.assertFalse(is_harm(program, ["a"], "x", "weak", ["a"], ([BEGIN], [("a", "struck")])))
        # A strike that can still come is no step for waiting, nor for an empty ring.
        program = Program(nest({"x": [("take", "e", [])]}))
        self.assertTrue(is_harm(program, ["x"], "x", "weak", [], ([BEGIN], [])))
        self.assertEqual(harmed(program, ["x"], "x", "weak", []), ([BEGIN], []))

    def test_by_trying_out(self):
        seen = set()
        for seed in range(75):
            program = [servers, markets, made_up][seed % 3](seed)
            strikable = [task for task in reversed(program.tasks()) if task != "main"][:2]
            if len(world_of(program).runs) > 25:
                continue
            world = World(StruckRun(program, strikable))
            for task in program.tasks():
                for kind in KINDS:
                    seen.add(self.check(program, strikable, world, task, kind))
        self.assertGreaterEqual(seen, {(), (0,), (1,), (2,)})

    def check(self, program, strikable, world, task, kind):
        harming = []
        for lot in lots_of(strikable):
            goes = waiting_goes(world, task, lot)
            found = harmed(program, strikable, task, kind, lot)
            if len(goes) <= 8:
                self.assertEqual(found is not None, can_go_on(world, goes, kind))
            if found is not None:
                self.assertTrue(is_plain_lasso(world, goes, kind, *found))
                for other in lots_of(strikable):
                    self.assertIs(is_harm(program, strikable, task, kind, other, found), other == lot)
                if task not in lot:
                    harming.append(lot)
        least = [lot for lot in harming if not any(set(less) < set(lot) for less in harming)]
        self.assertEqual(harms(program, strikable, task, kind), least)
        self.assertEqual(least == [()], waits_for_ever(program, task, kind) is not None)
        return tuple(len(lot) for lot in least[:1])


if __name__ == "__main__":
    unittest.main()
