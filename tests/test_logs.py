"""Points 82, 83 and 89: logs with gaps, what runs they can be of."""

import random
import unittest

from meettasks.errors import BadLog
from meettasks.logs import first_misfit, fitting_run, is_log, stands_behind
from meettasks.programs import Program
from meettasks.runs import Run
from tests.makers import count_stands, example_11, markets, nest, servers, stand_key
from tests.objects import any_objects, raised
from tests.plainlogs import first_by_lots, made_up_log, runs_of


def example_89():
    return Program(nest({"a": [("pick", [[("note", "x")], [("note", "y")]]), ("note", "z")]}))


X, Y, Z = ("note", "a", "x"), ("note", "a", "y"), ("note", "a", "z")
PICKED = [("main", "begin"), ("a", "pick", 0), ("a", "note")]


class IsLogTest(unittest.TestCase):

    def test_lines(self):
        every = [X, ("meets", "a", "b", "e"), ("apart", "a", "b", "e"), ("broken", "a", "b", "e"), ("served", "a", "t", "e"),
                 ("ended", "a"), ("gap", 0), ("gap", 10 ** 30), ("gap", None)]
        self.assertIs(is_log(thing=every), True)
        self.assertIs(is_log(tuple([list(line) for line in every])), True)
        self.assertIs(is_log([]), True)
        wrong = any_objects() + [
            ("note", "a"), ("note", "a", "x", "y"), ("note", "A", "x"), ("note", "a", 1), ("meets", "a", "b"),
            ("meets", "a", "b", "e", "f"), ("served", "a", "t"), ("ended",), ("ended", "a", "b"), ("ended", "longwordx"),
            ("gap",), ("gap", -1), ("gap", True), ("gap", "any"), ("gap", 1, 2), ("began", "a"), ("gap", [1]), (None, "a"),
            (["note"], "a", "x"), {"note": 1}, "ended"]
        program = example_89()
        for thing in wrong:
            if not isinstance(thing, (list, tuple)) or thing:
                self.assertIs(is_log(thing), False)
            self.assertIs(is_log(every + [thing]), False)
            for work in (fitting_run, first_misfit, stands_behind):
                error = raised(work, program, [X, thing, "bad"])
                self.assertIsInstance(error, BadLog)
                self.assertEqual(error.index, 1)
                if not isinstance(thing, (list, tuple)) or thing:
                    self.assertIsInstance(raised(work, program, thing), BadLog)
                    self.assertEqual(raised(work, program, thing).index, 0)


class FittingTest(unittest.TestCase):

    def test_example(self):
        program = example_89()
        log = [("gap", 1), Z]
        self.assertEqual(fitting_run(program, log), PICKED + [("a", "note")])
        self.assertEqual(fitting_run(log=[["gap", 1], list(Z)], program=program), PICKED + [("a", "note")])
        self.assertEqual(first_misfit(program, [Z]), 0)
        self.assertEqual(first_misfit(log=(X, ("gap", 0), Y, Z), program=program), 2)
        self.assertIsNone(first_misfit(program, log))
        self.assertEqual([stands_behind(program, log), stands_behind(log=[("gap", 1)], program=program)], [1, 1])
        fitting_run(program, log).clear()
        self.assertEqual(len(fitting_run(program, log)), 4)

    def test_runs_without_steps(self):
        program = example_89()
        self.assertEqual([fitting_run(program, []), fitting_run(program, [("gap", None)]), fitting_run(program, [("gap", 0)])],
                         [[], [], []])
        self.assertEqual([stands_behind(program, []), stands_behind(program, [("gap", None)])], [1, 4])
        at_once = Program([("set", "f", True)])
        self.assertEqual(fitting_run(at_once, [("ended", "main")]), [])
        self.assertIsNone(fitting_run(at_once, [("gap", 2)]))
        self.assertEqual(first_misfit(at_once, [("gap", None), ("ended", "main"), ("gap", 0), ("gap", 3)]), 3)

    def test_the_last_step_brings_the_last_one(self):
        # Steps behind the last event are none of a run that fits; events of the same step may come behind it.
        program = example_11()
        meets, note = ("meets", "a", "b", "e"), ("note", "b", "y")
        steps = [("main", "begin"), ("a", "call"), ("b", "take"), ("b", "note")]
        self.assertEqual(fitting_run(program, [meets]), steps[:3])
        self.assertEqual(stands_behind(program, [meets]), 1)
        for log in ([meets, note], [meets, note, ("apart", "a", "b", "e")], [("gap", 4)]):
            self.assertEqual([fitting_run(program, log), stands_behind(program, log)], [steps, 1])
        # Steps without events are done by whoever does them: the stands ahead of the last step do not count.
        both = Program(nest({"a": [("note", "x")], "b": [("pick", [[], []]), ("note", "y")]}))
        self.assertEqual(stands_behind(both, [("note", "a", "x")]), 2)
        self.assertEqual(fitting_run(both, [("note", "a", "x")]), [("main", "begin"), ("a", "note")])

    def test_words_that_are_not_there(self):
        program = example_89()
        for line in (("note", "q", "x"), ("served", "a", "t", "e"), ("note", "a", "w"), ("meets", "a", "q", "e")):
            self.assertIsNone(fitting_run(program, [line]))
            self.assertEqual([first_misfit(program, [X, line]), stands_behind(program, [line])], [1, 0])

    def test_as_runs_order_their_steps(self):
        # By tasks in the order of the text, not of their words.
        program = Program(nest({"a": nest({"z": [("note", "x")]}, [("note", "y")]), "b": [("note", "x")]}))
        self.assertEqual(program.tasks(), ["main", "a", "z", "b"])
        steps = [("main", "begin"), ("a", "begin"), ("a", "note"), ("z", "note")]
        log = [("note", "a", "y"), ("gap", 1)]
        self.assertEqual([fitting_run(program, log), first_by_lots(program, log)], [steps, steps])

    def test_against_all_runs(self):
        many = fits = 0
        for seed, (program, runs) in enumerate(runs_of(range(700))):
            for number in range(3):
                log = made_up_log(runs, 10 * seed + number)
                found = [run for run, _ in runs.fits(log)]
                self.assertEqual(fitting_run(program, log), found[0].steps() if found else None)
                self.assertEqual(stands_behind(program, log), len({stand_key(run) for run in found}))
                misfits = [at for at in range(len(log)) if not runs.fits(log[:at + 1])]
                self.assertEqual(first_misfit(program, log), misfits[0] if misfits else None)
                many += 1
                fits += bool(found)
        self.assertGreater(many, 1200)
        self.assertGreater(fits, 800)

    def test_programs_that_go_on_for_ever(self):
        many = fits = 0
        for seed in range(160):
            program = (servers, markets)[seed % 2](seed)
            if count_stands(program, 60) > 60:
                continue
            luck = random.Random(seed)
            run = Run(program)
            for _ in range(25):
                run = run.more([luck.choice(run.let())]) if run.let() else run
            lines = []
            for event in run.events():
                lines.append(luck.choice([event, event, ("gap", 1), ("gap", None)]))
            if lines and luck.random() < 0.3:
                lines.append(luck.choice(lines))
            found = first_by_lots(program, lines)
            self.assertEqual(fitting_run(program, lines), found)
            self.assertEqual(stands_behind(program, lines) > 0, found is not None)
            many += 1
            fits += found is not None
        self.assertGreater(many, 60)
        self.assertGreater(fits, 50)


if __name__ == "__main__":
    unittest.main()
