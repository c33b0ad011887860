"""Points 20, 23, 24: who can wait for ever, and why not."""

import random
import unittest

from meettasks.errors import BadKind, NoTask
from meettasks.helping import are_helpers, helpers
from meettasks.lassos import is_wait, waits_for_ever
from meettasks.programs import Program
from meettasks.runs import Run
from tests.makers import LOCK, example_26, markets, nest, servers, small_programs
from tests.objects import any_objects, raised
from tests.plain import are_plain_helpers, can_go_on, is_plain_lasso, waiting_goes, world_of

BEGIN = ("main", "begin")
KINDS = ("any", "weak", "strong")


def changed(luck, steps, ring):
    """A pair of lists near these."""
    steps, ring = list(steps), list(ring)
    which = luck.random()
    if which < 0.3 and ring:
        ring.pop(luck.randrange(len(ring)))
    elif which < 0.5 and steps:
        steps.pop(luck.randrange(len(steps)))
    elif which < 0.8 and ring:
        ring = ring + ring
        ring.pop(luck.randrange(len(ring)))
    else:
        ring = ring + ring
    return steps, ring


def changed_rows(luck, rows, tasks):
    """Rows near these."""
    rows = {key: list(rows[key]) for key in rows}
    key = luck.choice(list(rows))
    at = luck.randrange(len(rows[key]))
    number, helper = rows[key][at]
    which = luck.random()
    if which < 0.3:
        rows[key][at] = (number + 1, helper)
    elif which < 0.6 and number > 0:
        rows[key][at] = (number - 1, helper)
    elif which < 0.8:
        others = [pair[1] for row in rows.values() for pair in row]
        rows[key][at] = (number, luck.choice(others + list(tasks)))
    elif which < 0.9:
        rows[key] = rows[key] + rows[luck.choice(list(rows))]
    else:
        del rows[key]
    return rows


def programs():
    return (small_programs(25, range(900, 1300), 40) + [servers(seed) for seed in range(40)]
            + [markets(seed) for seed in range(60)])


class ForEverTest(unittest.TestCase):

    def test_example(self):
        program = example_26()
        told = ([BEGIN, ("x", "call")], [("y", "call"), ("s", "arm", 1)])
        for kind in ("any", "weak"):
            steps, ring = waits_for_ever(program, "x", kind)
            self.assertIsInstance(steps, list)
            self.assertIsInstance(ring, list)
            self.assertTrue(is_wait(program, "x", kind, (steps, ring)))
            self.assertIs(is_wait(program, "x", kind, told), True)
            self.assertIsNone(helpers(program, "x", kind))
        self.assertIsNone(waits_for_ever(program, "x", "strong"))
        self.assertIs(is_wait(program, "x", "strong", told), False)
        arm = ("s", (0, 0, 0), 0)
        self.assertEqual([row[0][1] for row in helpers(program, "x", "strong").values()], [arm, arm])
        rows = {(BEGIN, ("x", "call")): [(0, arm)], (BEGIN, ("x", "call"), ("y", "call")): [(0, arm)]}
        self.assertTrue(are_helpers(program, "x", "strong", rows))

    def test_kinds(self):
        # y goes on for ever: x waits in any order in which s never goes on, in no weak one.
        program = Program(nest({"x": [("call", "s", "e", [])], "s": [("take", "e", [])],
                                "y": [("again", [("note", "n")])]}))
        told = ([BEGIN, ("x", "call")], [["y", "note"]])
        self.assertTrue(is_wait(program, "x", "any", told))
        self.assertFalse(is_wait(program, "x", "weak", told))
        self.assertIsNone(waits_for_ever(program, "x", "weak"))
        self.assertIsNotNone(waits_for_ever(program, "x", "any"))
        self.assertEqual(waits_for_ever(kind="any", task="main", program=program)[1], [("y", "note")])

    def test_an_empty_ring(self):
        program = Program(nest({"x": [("take", "e", [])], "y": [("note", "n")]}))
        self.assertEqual(waits_for_ever(program, "x", "strong"), ([BEGIN, ("y", "note")], []))
        self.assertFalse(is_wait(program, "x", "any", ([BEGIN], [])))
        self.assertTrue(is_wait(program, "x", "strong", ((BEGIN, ["y", "note"]), ())))

    def test_a_ring_that_moves_the_task_is_none(self):
        program = Program(nest({"x": [("again", [("call", "s", "e", [])])], "s": [("again", [("take", "e", [])])]}))
        self.assertFalse(is_wait(program, "x", "any", ([BEGIN, ("x", "call")], [("s", "take"), ("x", "call")])))
        self.assertIsNone(waits_for_ever(program, "x", "any"))
        self.assertTrue(are_helpers(program, "x", "any", {(BEGIN, ("x", "call")): [(0, None)]}))

    def test_nobody_waits(self):
        program = Program([("note", "x")])
        for kind in KINDS:
            self.assertIsNone(waits_for_ever(program, "main", kind))
            self.assertEqual(helpers(program, "main", kind), {})
            self.assertIs(are_helpers(program, "main", kind, {}), True)

    def test_errors(self):
        program = example_26()
        calls = ((waits_for_ever, ()), (is_wait, (None,)), (helpers, ()), (are_helpers, (None,)))
        for work, more in calls:
            for thing in any_objects():
                if thing != "main":
                    error = raised(work, program, thing, "no", *more)
                    self.assertIsInstance(error, NoTask)
                    self.assertIs(error.task, thing)
                if thing != "weak":
                    error = raised(work, program, "main", thing, *more)
                    self.assertIsInstance(error, BadKind)
                    self.assertIs(error.kind, thing)

    def test_any_objects(self):
        program = example_26()
        for thing in any_objects():
            for kind in KINDS:
                self.assertIs(is_wait(program, "x", kind, thing), False)
                self.assertIs(are_helpers(program, "x", kind, thing), False)
        key = (BEGIN, ("x", "call"))
        for thing in any_objects():
            self.assertIs(is_wait(program, "x", "any", (thing, [("y", "call"), ("s", "arm", 1)])), False)
            self.assertIs(is_wait(program, "x", "any", ([BEGIN, thing], [])), False)
            self.assertIs(is_wait(program, "x", "any", ([BEGIN, ("x", "call")], [thing])), False)
            rows = {key: thing, key + (("y", "call"),): [(0, ("s", (0, 0, 0), 0))]}
            self.assertIs(are_helpers(program, "x", "strong", rows), False)
            rows[key] = [(0, thing)]
            self.assertIs(are_helpers(program, "x", "strong", rows), False)
            rows[key] = [(thing, ("s", (0, 0, 0), 0))]
            self.assertIs(are_helpers(program, "x", "strong", rows), thing == 0 and thing is not False)

    def test_true_is_no_number(self):
        program = Program([("again", [("pick", [[], []])])] + [])
        program = Program(nest({"x": [("pick", [[], [("take", "e", [])]])], "y": [("note", "n")]}))
        key = (BEGIN, ("x", "pick", 1))
        self.assertIsNotNone(waits_for_ever(program, "x", "any"))
        program = Program(nest({"x": [("pick", [[], [("call", "y", "e", [])]])], "y": [("note", "n"), ("if", "f", [
            ("take", "e", [])], [])]}))
        rows = helpers(program, "x", "weak")
        key = (BEGIN, ("x", "pick", 1), ("x", "call"))
        self.assertEqual(list(rows), [key])
        self.assertTrue(are_helpers(program, "x", "weak", rows))
        self.assertFalse(are_helpers(program, "x", "weak", {(BEGIN, ("x", "pick", True), ("x", "call")): rows[key]}))
        self.assertFalse(are_helpers(program, "x", "weak", {key: [(True, "y")]}))
        self.assertTrue(are_helpers(program, "x", "weak", {key: ([1, "y"],)}))
        self.assertFalse(is_wait(program, "x", "any", ([BEGIN, ("x", "pick", True), ("x", "call")], [])))

    def test_true_is_no_number_of_an_arm(self):
        arms = [(None, "b", []), (None, "a", [])]
        program = Program(nest({"s": [("again", [("offer", arms, None)])], "x": [("call", "s", "a", [])],
                                "y": [("again", [("call", "s", "b", [])])]}))
        arm = ("s", (0, 0, 0), 1)
        keys = list(helpers(program, "x", "strong"))
        self.assertTrue(are_helpers(program, "x", "strong", {key: [(0, arm)] for key in keys}))
        for other in (("s", (0, 0, 0), True), ("s", (False, 0, 0), 1), ("s", (0, 0, 0), 0), ("s", (0, 0, 0), 2),
                      ("s", (0, 0, 0)), ("s", 0, 1), ("s", (0, 0, 0), None), (None, (0, 0, 0), 1), "x", None):
            self.assertFalse(are_helpers(program, "x", "strong", {key: [(0, other)] for key in keys}))

    def test_rows_for_arms_that_are_shut_at_times(self):
        arms = [(None, "a", []), (None, "b", [])]
        tasks = {"s": [("again", [("offer", arms, None), ("note", "n")])], "x": [("call", "s", "a", [])],
                 "y": [("again", [("call", "s", "b", [])])]}
        program = Program(nest(tasks))
        rows = helpers(program, "x", "strong")
        self.assertEqual(max(len(row) for row in rows.values()), 2)
        self.assertTrue(are_helpers(program, "x", "strong", rows))
        turned = {key: rows[key] for key in reversed(list(rows))}
        self.assertTrue(are_helpers(program=program, task="x", kind="strong", thing=turned))
        lists = {key: [[pair[0], list(pair[1]) if isinstance(pair[1], tuple) else pair[1]] for pair in rows[key]]
                 for key in rows}
        self.assertTrue(are_helpers(program, "x", "strong", lists))
        for key in rows:
            if len(rows[key]) == 2:
                self.assertFalse(are_helpers(program, "x", "strong", dict(rows, **{}) | {key: rows[key][:1]}))
                self.assertFalse(are_helpers(program, "x", "strong", dict(rows) | {key: rows[key][1:]}))

    def test_told_new_and_free_is_the_same(self):
        for seed in range(12):
            one, other = markets(seed), markets(seed)
            for task in one.tasks():
                for kind in KINDS:
                    found = waits_for_ever(one, task, kind)
                    self.assertEqual(found, waits_for_ever(other, task, kind))
                    rows = helpers(one, task, kind)
                    self.assertEqual(rows, helpers(other, task, kind))
                    if rows is not None:
                        for key in list(rows):
                            rows[key].clear()
                        self.assertEqual(helpers(one, task, kind), helpers(other, task, kind))
                    else:
                        found[0].clear()
                        self.assertEqual(waits_for_ever(one, task, kind), waits_for_ever(other, task, kind))

    def test_just_one_of_both(self):
        seen = {}
        for seed, program in enumerate(programs()):
            world = world_of(program)
            if len(world.runs) > 60:
                continue
            for task in program.tasks():
                goes = waiting_goes(world, task)
                for kind in KINDS:
                    found = self.check(program, world, task, kind, goes, random.Random(seed))
                    seen[kind, found] = seen.get((kind, found), 0) + 1
        self.assertEqual(len(seen), 6)
        self.assertLess(seen["strong", True], seen["weak", True])
        self.assertLess(seen["weak", True], seen["any", True])

    def check(self, program, world, task, kind, goes, luck):
        found = waits_for_ever(program, task, kind)
        rows = helpers(program, task, kind)
        self.assertEqual(found is None, rows is not None)
        if len(goes) <= 8:
            self.assertEqual(found is not None, can_go_on(world, goes, kind))
        if found is not None:
            self.assertIs(is_wait(program, task, kind, found), True)
            self.assertTrue(is_plain_lasso(world, goes, kind, *found))
            for _ in range(4):
                pair = changed(luck, *found)
                self.assertEqual(is_wait(program, task, kind, pair), is_plain_lasso(world, goes, kind, *pair))
        else:
            self.assertEqual(list(rows), [tuple(world.first(at)) for at in sorted(goes)])
            self.assertIs(are_helpers(program, task, kind, rows), True)
            self.assertTrue(are_plain_helpers(world, goes, kind, rows))
            for _ in range(4 if rows else 0):
                others = changed_rows(luck, rows, program.tasks())
                self.assertEqual(are_helpers(program, task, kind, others), are_plain_helpers(world, goes, kind, others))
        return found is not None

    def test_limits(self):
        wait = [("again", [("wait", "t", "have"), ("use", "t", "give")])]
        program = Program(nest({name: wait for name in "abcd"}), {"t": LOCK})
        for kind in KINDS:
            found = waits_for_ever(program, "a", kind)
            self.assertIsNone(helpers(program, "a", kind) if found else found)
            if found:
                self.assertTrue(is_wait(program, "a", kind, found))
                self.assertTrue(is_wait(program, "a", kind, (found[0], found[1] * 50)))
                self.assertEqual(Run(program, found[0] + found[1]), Run(program, found[0]))


if __name__ == "__main__":
    unittest.main()
