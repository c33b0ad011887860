"""Point 28: whether main ends, surely."""

import random
import unittest

from meettasks.errors import BadKind
from meettasks.programs import Program
from meettasks.unending import are_end_helpers, end_helpers, is_unending, left_over, never_ends
from tests.makers import example_26, example_33, example_33_server, nest
from tests.objects import any_objects, raised
from tests.plain import are_plain_helpers, can_go_on, is_plain_lasso, unended_goes, world_of
from tests.test_lassos import KINDS, changed, changed_rows, programs

BEGIN = ("main", "begin")


class UnendingTest(unittest.TestCase):

    def test_example(self):
        program = example_33()
        for kind in KINDS:
            self.assertIsNone(never_ends(program, kind))
            self.assertIs(are_end_helpers(program, kind, end_helpers(program, kind)), True)
        program = example_33_server()
        for kind in KINDS:
            steps, ring = never_ends(program, kind)
            self.assertEqual(ring, [])
            self.assertIs(is_unending(program, kind, (steps, ring)), True)
            self.assertIsNone(end_helpers(program, kind))
        self.assertEqual(left_over(program=program), [("main", "s")])

    def test_at_an_end(self):
        program = Program([])
        for kind in KINDS:
            self.assertIsNone(never_ends(program, kind))
            self.assertEqual(end_helpers(program, kind), {})
            self.assertIs(are_end_helpers(program, kind, {}), True)
            self.assertIs(is_unending(program, kind, ([], [])), False)
        self.assertEqual(left_over(program), [])

    def test_kinds(self):
        program = Program([("again", [("pick", [[("leave",)], []])])])
        self.assertEqual([never_ends(program, kind) for kind in KINDS], [([], [("main", "pick", 1)])] * 3)
        program = Program(nest({"a": [("again", [("offer", [(None, "e", [("note", "x")])], ("end",))])],
                                "b": [("call", "a", "e", [])], "c": [("note", "y")]}))
        self.assertEqual([never_ends(program, kind) for kind in KINDS], [None] * 3)
        program = Program([("again", [("note", "x")])])
        self.assertTrue(is_unending(thing=((), [["main", "note"]]), kind="strong", program=program))

    def test_errors_and_any_objects(self):
        program = example_26()
        for work, more in ((never_ends, ()), (is_unending, (None,)), (end_helpers, ()), (are_end_helpers, (None,))):
            for kind in any_objects():
                if kind != "weak":
                    error = raised(work, program, kind, *more)
                    self.assertIsInstance(error, BadKind)
                    self.assertIs(error.kind, kind)
        for thing in any_objects():
            for kind in KINDS:
                self.assertIs(is_unending(program, kind, thing), False)
                self.assertIs(are_end_helpers(program, kind, thing), False)

    def test_left_over(self):
        program = Program(nest({name: [("pick", [[("take", "e", [])], []])] for name in "ab"}))
        self.assertEqual(left_over(program), [("a", "main"), ("b", "main"), ("a", "b", "main")])

    def test_just_one_of_both(self):
        seen = set()
        for seed, program in enumerate(programs()):
            world = world_of(program)
            if len(world.runs) > 60:
                continue
            goes = unended_goes(world)
            for kind in KINDS:
                seen.add((kind, self.check(program, world, kind, goes, random.Random(seed))))
            lots = {tuple(sorted(task for task in program.tasks() if run.how(task) not in ("absent", "ended")))
                    for at, run in enumerate(world.runs) if not world.goes[at] and run.how("main") != "ended"}
            self.assertEqual(left_over(program), sorted(lots, key=lambda lot: (len(lot), lot)))
        self.assertEqual(len(seen), 6)

    def check(self, program, world, kind, goes, luck):
        found, rows = never_ends(program, kind), end_helpers(program, kind)
        self.assertEqual(found is None, rows is not None)
        if len(goes) <= 9:
            self.assertEqual(found is not None, can_go_on(world, goes, kind))
        for _ in range(6):
            if found is not None:
                self.assertIs(is_unending(program, kind, found), True)
                pair = changed(luck, *found)
                self.assertEqual(is_unending(program, kind, pair), is_plain_lasso(world, goes, kind, *pair))
            elif rows:
                self.assertIs(are_end_helpers(program, kind, rows), True)
                others = changed_rows(luck, rows, program.tasks())
                self.assertEqual(are_end_helpers(program, kind, others), are_plain_helpers(world, goes, kind, others))
        return found is not None


if __name__ == "__main__":
    unittest.main()
