"""Point 22: rests and knots."""

import unittest
from itertools import combinations

from meettasks.knots import greatest_knot, is_knot
from meettasks.programs import Program
from meettasks.runs import Run
from meettasks.waits import stuck
from tests.makers import CELL, LOCK, example_26_less, markets, nest, servers, small_programs
from tests.objects import any_objects
from tests.plain import world_of

BEGIN = ("main", "begin")
WAIT, GIVE = ("wait", "t", "have"), ("use", "t", "give")


def run_of(tasks, steps, inner=()):
    return Run(Program(nest(tasks, inner), {"t": LOCK, "u": CELL}), [BEGIN] + list(steps))


class KnotsTest(unittest.TestCase):

    def test_example(self):
        run = Run(example_26_less(), [BEGIN, ("y", "call"), ("s", "arm", 1)])
        self.assertEqual(greatest_knot(run), ["main", "s"])
        self.assertTrue(is_knot(run, ["s"]))
        self.assertTrue(is_knot(thing=("main", "s"), run=run))
        self.assertFalse(is_knot(run, ["main"]))

    def test_rows_of_each_other(self):
        call = lambda task: [("call", task, "e", []), ("take", "e", [])]
        run = run_of({"a": call("b"), "b": call("a")}, [("a", "call"), ("b", "call")])
        self.assertEqual(greatest_knot(run), ["a", "b", "main"])
        self.assertTrue(is_knot(run, ["a", "b"]))
        self.assertFalse(is_knot(run, ["a"]))
        self.assertFalse(is_knot(run, ["b", "a"]))

    def test_met_ones_need_who_holds_them(self):
        tasks = {"a": [("call", "s", "e", [])], "s": [("take", "e", [("take", "g", [])])]}
        run = run_of(tasks, [("a", "call"), ("s", "take")])
        self.assertEqual(greatest_knot(run), ["a", "main", "s"])
        self.assertFalse(is_knot(run, ["a"]))
        self.assertTrue(is_knot(run, ["a", "s"]))

    def test_takers_need_all_whose_rest_has_a_call(self):
        tasks = {"s": [("take", "e", [])], "x": [WAIT, WAIT, ("call", "s", "e", [])]}
        run = run_of(tasks, [("x", "wait"), ("x", "wait")])
        self.assertFalse(is_knot(run, ["s"]))
        self.assertTrue(is_knot(run, ["s", "x"]))
        # One that can still call, and does not wait, keeps all others out.
        tasks["y"] = [("note", "x"), ("if", "f", [("call", "s", "e", [])], [])]
        run = run_of(tasks, [("x", "wait"), ("x", "wait")])
        self.assertEqual(greatest_knot(run), ["main", "x"])
        self.assertEqual(greatest_knot(run.more([("y", "note")])), ["main", "s", "x"])

    def test_rest_goes_round_the_outermost_again(self):
        tasks = {"s": [("take", "e", []), ("take", "g", [])],
                 "x": [("again", [("call", "s", "e", []), ("again", [("note", "x"), ("take", "k", [])])])]}
        run = run_of(tasks, [("x", "call"), ("s", "take"), ("x", "note")])
        self.assertEqual(greatest_knot(run), ["main", "s", "x"])
        tasks["s"] = [("take", "e", []), ("take", "e", [])]
        run = run_of(tasks, [("x", "call"), ("s", "take"), ("x", "note")])
        self.assertTrue(is_knot(run, ["s", "x"]))
        self.assertFalse(is_knot(run, ["s"]))
        tasks["x"] = [("call", "s", "e", []), ("again", [("note", "x"), ("take", "k", [])])]
        self.assertTrue(is_knot(run_of(tasks, [("x", "call"), ("s", "take"), ("x", "note")]), ["s"]))

    def test_rest_of_a_closing_one_has_none_of_its_nest(self):
        tasks = {"x": nest({"p": [WAIT, WAIT, ("call", "s", "e", [])]}, [("note", "x")]), "s": [("take", "e", [])]}
        steps = [("x", "begin"), ("x", "note"), ("p", "wait"), ("p", "wait")]
        run = run_of(tasks, steps)
        self.assertEqual(greatest_knot(run), ["main", "p", "s", "x"])
        self.assertTrue(is_knot(run, ["p", "s"]))
        # In an "again" the nest comes again.
        run = run_of({"x": [("again", tasks["x"])], "s": tasks["s"]}, steps)
        self.assertFalse(is_knot(run, ["p", "s"]))
        self.assertTrue(is_knot(run, ["p", "s", "x"]))

    def test_closing_ones_need_some_task_of_the_nest(self):
        run = run_of({"a": [("take", "e", [])], "b": [("take", "e", [])], "c": [("note", "x")]}, [])
        self.assertTrue(is_knot(run, ["a", "main"]))
        self.assertTrue(is_knot(run, ["b", "main"]))
        self.assertFalse(is_knot(run, ["main"]))

    def test_offers_with_an_end_need_one_who_is_not_ready(self):
        offer = [("offer", [(None, "e", [])], ("end",))]
        run = run_of({"a": offer, "b": [("take", "g", [])]}, [])
        self.assertFalse(is_knot(run, ["a"]))
        self.assertTrue(is_knot(run, ["a", "b"]))
        self.assertTrue(is_knot(run, ["b"]))
        run = run_of({"a": offer, "b": nest({"c": [("take", "g", [])]})}, [("b", "begin")])
        self.assertTrue(is_knot(run, ["a", "c"]))
        run = Run(Program(offer))
        self.assertEqual([greatest_knot(run), stuck(run)], [[], ["main"]])

    def test_flags_tell_what_can_be_taken(self):
        offer = [("offer", [("f", "e", []), (None, "g", [])], None)]
        caller = [("note", "x"), ("call", "s", "e", [])]
        self.assertTrue(is_knot(run_of({"s": offer, "x": caller}, []), ["s"]))
        self.assertFalse(is_knot(run_of({"s": [("set", "f", True)] + offer, "x": caller}, []), ["s"]))

    def test_rows_of_things(self):
        run = run_of({"x": [WAIT, WAIT], "y": [GIVE]}, [("x", "wait"), ("x", "wait")])
        self.assertEqual(greatest_knot(run), [])
        run = run.more([("y", "use")])
        self.assertEqual(greatest_knot(run), [])
        run = run_of({"x": [WAIT, WAIT], "y": [WAIT]}, [("x", "wait"), ("x", "wait"), ("y", "wait")])
        self.assertEqual(greatest_knot(run), ["main", "x", "y"])
        self.assertFalse(is_knot(run, ["x"]))
        # A condition can stay shut though others still use the thing: stuck, and in no knot.
        run = run_of({"x": [("wait", "u", "all")], "y": [("again", [("wait", "u", "get"), ("use", "u", "put")])],
                      "z": [("use", "u", "put")]}, [("x", "wait"), ("y", "wait"), ("z", "use")])
        self.assertEqual([greatest_knot(run), stuck(run)], [[], ["main", "x"]])

    def test_aborts_in_rests(self):
        tasks = {"a": [("take", "e", [])], "z": [("take", "g", []), ("abort", "a")]}
        run = run_of(tasks, [])
        self.assertFalse(is_knot(run, ["a"]))
        self.assertTrue(is_knot(run, ["a", "z"]))
        tasks = {"a": nest({"c": [("take", "e", [])]}, [("take", "k", [])]), "z": [("take", "g", []), ("abort", "a")]}
        run = run_of(tasks, [("a", "begin")])
        self.assertFalse(is_knot(run, ["c"]))
        self.assertTrue(is_knot(run, ["c", "z"]))

    def test_nests_in_rests(self):
        tasks = {"s": [("take", "e", [])], "x": [WAIT, WAIT] + nest({"p": nest({"q": [("call", "s", "e", [])]})})}
        run = run_of(tasks, [("x", "wait"), ("x", "wait")])
        self.assertFalse(is_knot(run, ["s"]))
        self.assertTrue(is_knot(run, ["s", "x"]))

    def test_any_objects(self):
        run = Run(example_26_less(), [BEGIN, ("y", "call"), ("s", "arm", 1)])
        for thing in any_objects() + [["y"], ["s", "s"], ["s", "main"], ["main", "s", "y"], ["zz"], "s", {"s": 1}]:
            self.assertIs(is_knot(run, thing), False)

    def test_facts(self):
        found = 0
        for program in (small_programs(25, range(600, 900), 40) + [servers(seed) for seed in range(25)]
                        + [markets(seed) for seed in range(15)]):
            world = world_of(program)
            for run in world.runs[:60]:
                knot = greatest_knot(run)
                waiting = sorted(task for task in program.tasks() if run.how(task) not in ("absent", "ended")
                                 and not any(step[0] == task for step in run.let()))
                lots = [lot for many in range(1, len(waiting) + 1) for lot in combinations(waiting, many)
                        if is_knot(run, lot)]
                self.assertEqual(knot, sorted({task for lot in lots for task in lot}))
                self.assertLessEqual(set(knot), set(stuck(run)))
                found += len(lots)
        self.assertGreater(found, 100)


if __name__ == "__main__":
    unittest.main()
