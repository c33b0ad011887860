"""Point 76: compiled programs, held against the programs step by step."""

import unittest

from meettasks.codes import Code
from meettasks.compiling import compiled
from meettasks.papers import apart_by, is_paper, paper
from meettasks.programs import Program
from meettasks.runs import Run
from meettasks.shorter import rows_coming
from meettasks.smallruns import small_events, small_orders, small_steps
from meettasks.standing import first_orders, steps_at
from tests.makers import count_stands, example_11, example_26, example_33, made_up, markets, nest, servers

SILENT = ("set", "unless", "go", "free", "over")


class CompilingTest(unittest.TestCase):

    def check(self, program):
        code = compiled(program=program)
        self.assertEqual([code.tasks(), code.things()], [program.tasks(), program.things()])
        for task in code.tasks():
            self.assertTrue(all(on == (row[0] in SILENT) for row, on in code.rows(task)))
        orders = first_orders(program)
        self.assertEqual(small_orders(code), orders)
        for at, order in enumerate(orders):
            self.assertEqual(small_steps(code, at), steps_at(program, at))
            self.assertEqual(small_events(code, order), Run(program, order).events())
        return code

    def test_examples(self):
        for program in (example_11(), example_26(), example_33(), Program([]), Program([("again", [("note", "x")])])):
            code = self.check(program)
            self.assertIsInstance(code, Code)
            self.assertEqual(code, compiled(program))
            self.assertIsNone(apart_by(program, code))
            self.assertTrue(is_paper(program, code, paper(program, code)))

    def test_many_programs(self):
        many = stands = 0
        for seed in range(900):
            program = (made_up, servers, markets)[seed % 3](seed)
            if count_stands(program, 90) <= 90:
                self.check(program)
                many += 1
                stands += len(first_orders(program))
        self.assertGreater(many, 700)
        self.assertGreater(stands, 7000)

    def test_nests_at_the_end(self):
        # Whoever closes a nest that is last in its body is ready to end; a "leave" behind it is a deed, too.
        ending = [("offer", [(None, "e", [])], ("end",))]
        inner = ("nest", {"c": [("note", "x")]}, [])
        bodies = ([inner], [("if", "f", [], [inner])], [("if", "f", [inner], [("note", "y")])],
                  [("pick", [[inner], [("note", "z")]])], [inner, ("if", "f", [], [])], [inner, ("set", "f", True)],
                  [("again", [inner, ("leave",)])], [("again", [("if", "f", [], [inner]), ("leave",)])],
                  [("again", [("pick", [[inner], []]), ("leave",)])], [inner, ("again", [("leave",)])],
                  [("again", [("again", [inner, ("leave",)]), ("leave",)])], [("again", [inner])],
                  [("call", "s", "e", [inner])], [("offer", [(None, "g", [inner])], ("else", [inner_of("d")]))],
                  [("nest", {"d": []}, [inner])], [("abort", "s"), ("call", "s", "e", [inner])],
                  [("take", "g", [inner])], [("again", [("if", "f", [("leave",)], [("set", "f", True)]), inner])])
        lasts = []
        for body in bodies:
            program = Program(nest({"a": body, "s": ending}))
            self.check(program)
            self.assertIsNone(apart_by(program, compiled(program)))
            lasts.append(any(step == ("main", "ends") and ("a", "closes") in dict(steps_at(program, at))
                             for at in range(len(first_orders(program))) for step, _ in steps_at(program, at)))
        self.assertEqual(lasts, [True, True, False, True] + [False] * 9 + [True, True, False, False, False])

    def test_deep_bodies(self):
        program = Program(nest({
            "a": [("take", "e", [("take", "g", [("note", "x")]), ("again", [("pick", [[("leave",)], [("note", "y")]])])])],
            "b": [("call", "a", "e", [("note", "z")])], "c": [("call", "a", "g", []), ("abort", "a")]},
            [("nest", {"d": [("call", "a", "e", [])]}, [("note", "w")])]))
        code = self.check(program)
        self.assertIsNone(apart_by(code, program))
        self.assertIn(("a", 0), rows_coming(code))


def inner_of(task):
    return "nest", {task: [("note", "x")]}, []


if __name__ == "__main__":
    unittest.main()
