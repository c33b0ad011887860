"""Points 34 and 35: sentences, marks."""

import unittest

from meettasks.errors import BadMarks, BadSentence, BadTruth
from meettasks.programs import Program
from meettasks.sentences import breach, values_coming, values_left
from meettasks.things import Thing
from tests.makers import CELL, LOCK, example_11, example_33, made_up, nest, servers
from tests.marked import MarkedWorld, is_barred
from tests.objects import any_objects, raised

BEGIN = ("main", "begin")
# Seeds of programs in which some mark bars an abort, or an ending together.
CUT = [39, 40, 57, 61, 102, 131, 133, 190, 191, 199, 214, 250, 256, 273, 285]
CUT_TOGETHER = [187, 228, 338, 379, 386, 438, 524, 541, 904, 974, 1175, 1235]
DOOR = Thing(["free", "held"], "free", {"drop": {"free": "free", "held": "free"},
                                        "look": {"free": "free", "held": "held"}}, {"get": {"free": "held"}})


def example_42():
    body = nest({"a": [("if", "x", [], [("wait", "lock", "get"), ("use", "lock", "drop")])]}, [("abort", "a")])
    return Program(body, {"lock": DOOR})


def all_marks(program):
    """All marks that there can be."""
    from meettasks.bodies import bodies_in, deeds_along
    return [(task, path) for task in program.tasks() for path, deed in deeds_along(program.body(task))
            if bodies_in(deed)]


class SentencesTest(unittest.TestCase):

    def test_example(self):
        program = example_42()
        self.assertEqual(values_left(program), [("free",), ("held",)])
        self.assertEqual(values_coming(program=program), [("free",), ("held",)])
        self.assertEqual(breach(program, {"lock": ["free"]}, True),
                         [BEGIN, ("a", "wait"), ("main", "abort"), ("main", "closes")])
        self.assertEqual(breach(at_end=False, sentence={"lock": ("free",)}, program=program), [BEGIN, ("a", "wait")])
        self.assertIsNone(breach(program, {"lock": ["held", "free"]}, False))
        self.assertEqual(breach(program, {"lock": []}, False), [])
        self.assertIsNone(breach(program, {}, False))
        self.assertEqual(values_left(program, marks=[["a", [0]]]), [("free",)])
        self.assertEqual(values_left(program, (("a", (0,)),)), [("free",)])
        self.assertIsNone(breach(program, {"lock": ["free"]}, True, [("a", (0,))]))
        self.assertEqual(values_coming(program, [("a", (0,))]), [("free",), ("held",)])

    def test_without_things_and_without_end(self):
        self.assertEqual([values_coming(example_11()), values_left(example_11())], [[()], [()]])
        endless = Program([("again", [("use", "u", "put")])], {"u": CELL})
        self.assertEqual(values_left(endless), [])
        self.assertEqual(values_coming(endless), [("no",), ("one",), ("two",)])
        self.assertIsNone(breach(endless, {"u": []}, True))
        self.assertEqual(breach(endless, {"u": ["no", "one"]}, False), [("main", "use")] * 2)

    def test_first_rows_go_by_the_order_of_tasks(self):
        # The tasks of a nest within stand behind who begins them, whatever their words are.
        program = Program(nest({"m": [("nest", {"a": [("use", "t", "set")]}, [("use", "t", "set")])], "z": []}), {
            "t": Thing(["no", "yes"], "no", {"set": {"no": "yes", "yes": "yes"}}, {})})
        self.assertEqual(program.tasks(), ["main", "m", "a", "z"])
        self.assertEqual(breach(program, {"t": ["no"]}, False), [BEGIN, ("m", "begin"), ("m", "use")])

    def test_told_anew(self):
        program = example_42()
        told = values_coming(program)
        told.append(None)
        row = breach(program, {"lock": []}, True)
        row.clear()
        self.assertEqual(values_coming(program), [("free",), ("held",)])
        self.assertEqual(breach(program, {"lock": []}, True), [BEGIN, ("main", "abort"), ("main", "closes")])

    def test_errors(self):
        program = Program(example_33().body("main"), {"t": LOCK, "u": CELL})
        for thing in any_objects():
            error = raised(breach, program, thing, None, None)
            if thing not in ({},):
                self.assertIsInstance(error, BadSentence)
            if not isinstance(thing, dict):
                self.assertIsNone(error.name)
            if not isinstance(thing, bool):
                error = raised(breach, program, {"t": ["free"]}, thing, None)
                self.assertIsInstance(error, BadTruth)
                self.assertIs(error.thing, thing)
        for sentence, name in (({"t": ["free"], "z": []}, "z"), ({"t": ["one"]}, "t"), ({"t": ["free", "free"]}, "t"),
                               ({"u": ["no"], "t": None}, "t"), ({"u": "no"}, "u"), ({3: ["no"]}, 3),
                               ({"u": [None]}, "u"), ({"u": [["no"]]}, "u"), ({None: []}, None)):
            error = raised(breach, program, sentence, None, None)
            self.assertIsInstance(error, BadSentence)
            self.assertEqual(error.name, name)
        self.assertIsInstance(raised(breach, program, {}, 0, None), BadTruth)
        self.assertIsInstance(raised(breach, program, {}, True, None), BadMarks)

    def test_marks_errors(self):
        program = example_42()
        for thing in any_objects():
            if thing not in ([], ()):
                for error in (raised(values_coming, program, thing), raised(values_left, program, thing),
                              raised(breach, program, {}, True, thing)):
                    self.assertIsInstance(error, BadMarks)
                    self.assertEqual(error.index, 0)
        good = ("a", (0,))
        for thing in any_objects() + [("a", (0, 1, 0)), ("a", (1,)), ("a", ()), ("a", (False,)), ("z", (0,)),
                                      ("main", (0, 0, 0)), ["a", [0]], good]:
            if thing != ["main", [0]] and thing != ("main", (0,)):
                error = raised(values_coming, program, [("main", (0,)), good, thing])
                self.assertIsInstance(error, BadMarks)
                self.assertEqual(error.index, 2)

    def test_by_stepping(self):
        for seed in range(25):
            program = made_up(seed) if seed % 2 else servers(seed)
            world = MarkedWorld(program)
            if len(world.runs) > 120:
                continue
            self.check(program, (), world)

    def check(self, program, marks, world):
        self.assertEqual(values_coming(program, marks), world.values())
        self.assertEqual(values_left(program, marks), world.values(True))
        for sentence in ({"t": ["free"]}, {"u": ["no", "one"]}, {"u": ["no"], "t": ["free"]}, {"t": []}):
            for at_end in (True, False):
                self.assertEqual(breach(program, sentence, at_end, marks), world.breach(sentence, at_end))

    def test_marks_by_stepping(self):
        for seed in CUT + CUT_TOGETHER:
            program = made_up(seed)
            for marks in (all_marks(program)[:6], all_marks(program)[1::2][:6]):
                self.check(program, marks, MarkedWorld(program, marks))
            barred = [step[1] for run in MarkedWorld(program).runs for step in run.let()
                      if is_barred(run, step, all_marks(program))]
            self.assertIn("ends" if seed in CUT_TOGETHER else "abort", barred)

    def test_what_is_inside(self):
        # At the nest's end it stands at the nest, not below it; at a call not in the call's body.
        tasks = {"a": [("nest", {"b": [("take", "e", [("note", "y")])]}, [("use", "t", "set")])],
                 "c": [("abort", "a")]}
        program = Program(nest(tasks), {"t": Thing(["no", "yes"], "no", {"set": {"no": "yes", "yes": "no"}}, {})})
        world = MarkedWorld(program, [("a", (0,))])
        barred = [run.steps() for at, run in enumerate(world.runs)
                  if run.place("c") == (0,) and ("c", "abort") not in dict(world.goes[at])]
        self.assertEqual(barred, [[BEGIN, ("a", "begin")]])
        self.assertEqual(values_left(program, [("a", (0,))]), world.values(True))
        # Who calls stands at its call, not in the call's body: the mark of a call is for the body alone.
        tasks = {"a": [("call", "s", "e", [("use", "t", "set"), ("use", "t", "set")])], "s": [("take", "e", [])],
                 "c": [("abort", "s"), ("abort", "a")]}
        program = Program(nest(tasks), program.things())
        self.assertEqual(values_left(program), [("no",), ("yes",)])
        self.assertEqual(values_left(program, [("a", (0,))]), [("no",)])

    def test_more_marks_fewer_runs(self):
        for seed in (3, 9, 14, 21, 33):
            program = made_up(seed)
            marks = all_marks(program)[:4]
            for many in range(len(marks)):
                self.assertLessEqual(set(values_coming(program, marks[:many + 1])),
                                     set(values_coming(program, marks[:many])))


if __name__ == "__main__":
    unittest.main()
