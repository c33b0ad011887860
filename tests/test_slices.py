"""Point 93: tasks on which a sentence cannot hang, and programs without what they do."""

import random
import unittest

from meettasks.errors import BadSentence
from meettasks.programs import Program
from meettasks.runs import Run
from meettasks.sentences import breach, values_coming, values_left
from meettasks.slices import loose_tasks, sliced
from meettasks.standing import first_orders
from tests.makers import CELL, LOCK, count_stands, made_up, nest
from tests.objects import any_objects, raised
from tests.plain import World
from tests.test_logs import example_89

THINGS = {"t": LOCK, "u": CELL}


class SlicesTest(unittest.TestCase):

    def test_example(self):
        program = example_89()
        self.assertEqual(loose_tasks(program=program, sentence={}), ["a"])
        self.assertEqual(sliced(sentence={}, program=program), Program(nest({"a": []})))
        loose_tasks(program, {}).clear()
        self.assertEqual(loose_tasks(program, {}), ["a"])

    def loose(self, body, sentence=(), more=None):
        tasks = {"a": body, "z": [("note", "x")], **(more or {})}
        return "a" in loose_tasks(Program(nest(tasks), THINGS), dict.fromkeys(sentence, ["free", "no"][:0]))

    def test_what_binds(self):
        for body in ([], [("note", "x"), ("set", "f", True), ("if", "f", [("note", "y")], [("pick", [[], [("note", "z")]])])],
                     [("use", "t", "give")], nest({"b": [("note", "x")]}), nest({"b": [("use", "u", "put")]}, [("note", "x")])):
            self.assertTrue(self.loose(body))
        server = {"s": [("take", "e", [])]}
        for deed in (("call", "s", "e", []), ("take", "g", []), ("offer", [(None, "g", [])], ("end",)), ("wait", "u", "get"),
                     ("abort", "z"), ("abort", "a"), ("again", [("note", "x")])):
            for body in ([deed], [("if", "f", [], [deed])], [("pick", [[], [("note", "x"), deed]])], nest({"b": [deed]}),
                         nest({"b": []}, [deed]), nest({"b": nest({"c": [deed]})})):
                self.assertFalse(self.loose(body, more=server))
        # Things of the sentence, and those that anybody waits for.
        use = [("use", "t", "give")]
        self.assertFalse(self.loose(use, ["t"]))
        self.assertTrue(self.loose(use, ["u"]))
        self.assertFalse(self.loose(use, more={"y": [("wait", "t", "have")]}))
        self.assertTrue(self.loose(use, more={"y": [("wait", "u", "get")]}))
        self.assertFalse(self.loose(nest({"b": use}), ["t"]))
        # Whom somebody aborts, be it one that it begins.
        self.assertFalse(self.loose([], more={"y": [("abort", "a")]}))
        program = Program(nest({"a": nest({"b": [("note", "x")], "c": [("abort", "b")]})}), THINGS)
        self.assertEqual(loose_tasks(program, {}), [])
        program = Program(nest({"a": nest({"b": [("note", "x")], "c": []}, [("abort", "b")])}), THINGS)
        self.assertEqual(loose_tasks(program, {}), ["c"])

    def test_all_that_it_begins(self):
        program = Program(nest({"a": nest({"b": [("note", "x")], "c": nest({"d": [("use", "t", "give")]})}),
                                "e": [("take", "g", [])] + nest({"f": [("note", "y")]})}) + [("note", "z")], THINGS)
        self.assertEqual(loose_tasks(program, {}), ["a", "b", "c", "d", "f"])
        self.assertEqual(loose_tasks(program, {"t": ["free"]}), ["b", "f"])
        self.assertEqual(sliced(program, {}), Program(nest({"a": [], "e": [("take", "g", [])] + nest({"f": []})})
                                                      + [("note", "z")], THINGS))
        self.assertEqual(sliced(program, {"t": []}).tasks(), program.tasks())

    def test_nothing_is_lost(self):
        many = breaches = 0
        for seed in range(1200):
            program = made_up(seed, many=2 + seed % 3, most=2 - seed % 2)
            luck = random.Random(seed)
            sentence = {name: luck.sample(thing.worths(), luck.randint(0, 2)) for name, thing in program.things().items()
                        if luck.random() < 0.6}
            if count_stands(program, 80) > 80 or not loose_tasks(program, sentence):
                continue
            less = sliced(program, sentence)
            many += 1
            for at_end in (False, True):
                told = breach(program, sentence, at_end)
                self.assertEqual(told is None, breach(less, sentence, at_end) is None)
                breaches += told is not None
            names = list(program.things())
            for work in (values_coming, values_left):
                both = [sorted({tuple(value for name, value in zip(names, row) if name in sentence) for row in work(one)})
                        for one in (program, less)]
                self.assertEqual(both[0], both[1])
        self.assertGreater(many, 300)
        self.assertGreater(breaches, 50)

    def test_rows_of_steps(self):
        # Without the steps of loose tasks a row of the one is one of the other.
        for seed in range(150):
            program = made_up(seed, many=3, most=1)
            loose = loose_tasks(program, {})
            if count_stands(program, 60) <= 60 and loose:
                less = sliced(program, {})
                for order in first_orders(program):
                    left = [step for step in order if step[0] in less.tasks() and step[0] not in loose]
                    self.assertEqual(Run(less, left).steps(), left)
                for run in World(Run(less)).runs:
                    self.assertIsNotNone(with_loose(program, loose, run.steps()))

    def test_errors(self):
        program = Program(nest({"a": [("use", "t", "give")]}), THINGS)
        for work in (loose_tasks, sliced):
            for thing in any_objects():
                error = raised(work, program, thing)
                if not isinstance(thing, dict):
                    self.assertIsInstance(error, BadSentence)
                    self.assertIsNone(error.name)
                if not isinstance(thing, (list, tuple)) or thing:
                    error = raised(work, program, {"u": ["no"], "t": thing, "z": []})
                    self.assertIsInstance(error, BadSentence)
                    self.assertEqual(error.name, "t")
            self.assertEqual(raised(work, program, {"t": ["free", "free"]}).name, "t")
            self.assertEqual(raised(work, program, {"a": []}).name, "a")


def with_loose(program, loose, steps):
    """A row of steps of the program with loose tasks' steps put in, found by doing these as soon as they can be done."""
    run = Run(program)
    for step in list(steps) + [None]:
        more = [one for one in run.let() if one[0] in loose]
        while more:
            run = run.more([more[0]])
            more = [one for one in run.let() if one[0] in loose]
        if step is not None:
            run = run.more([step])
    return run


if __name__ == "__main__":
    unittest.main()
