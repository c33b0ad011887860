"""Points 29 and 30: runs with strikes, and what stays true of things."""

import unittest
from itertools import combinations

from meettasks.errors import BadStep, BadTasks, BadValues, NoEntry, NoTask, NoThing
from meettasks.programs import Program
from meettasks.runs import Run
from meettasks.strikes import StruckRun, struck_values, value_bars
from tests.makers import CELL, LOCK, example_11, example_33, made_up, nest, servers
from tests.objects import any_objects, raised
from tests.plain import World, world_of

BEGIN = ("main", "begin")


def lots_of(things):
    return [lot for many in range(len(things) + 1) for lot in combinations(sorted(things), many)]


def struck_in(run):
    return {step[0] for step in run.steps() if step[1] == "struck"}


class StruckRunTest(unittest.TestCase):

    def test_steps(self):
        run = StruckRun(example_11(), ["b", "a"])
        self.assertEqual(run.let(), [BEGIN])
        run = run.more([BEGIN])
        self.assertEqual(run.let(), [("a", "call"), ("a", "struck"), ("b", "struck")])
        run = run.more([("a", "call"), ("b", "take"), ("b", "struck")])
        self.assertEqual(run.events(), [("meets", "a", "b", "e"), ("ended", "b"), ("broken", "a", "b", "e")])
        self.assertEqual([run.place("a"), run.how("b"), run.held("b")], [(1,), "ended", []])
        self.assertEqual(run.let(), [("a", "note"), ("a", "struck")])
        self.assertEqual(run.steps()[-1], ("b", "struck"))
        self.assertEqual(run.more([["a", "struck"]]).let(), [("main", "closes")])
        self.assertEqual(run.program(), example_11())

    def test_it_does_what_an_abort_does(self):
        inner = [("take", "k", [("call", "c", "e", [])])]
        tasks = {"x": nest({"p": [("call", "x", "k", [])]}, inner) + [("take", "m", [])],
                 "c": [("take", "e", [])], "y": [("call", "x", "m", [("note", "z")])]}
        steps = [BEGIN, ("x", "begin"), ("p", "call"), ("x", "take"), ("y", "call"), ("x", "call")]
        struck = StruckRun(Program(nest(tasks)), ["x"], steps + [("x", "struck")])
        aborted = Run(Program(nest(dict(tasks, z=[("abort", "x")]))), steps + [("z", "abort")])
        self.assertEqual(struck.events() + [("ended", "z")], aborted.events())
        for task in ("main", "x", "p", "c", "y"):
            self.assertEqual([struck.place(task), struck.how(task)], [aborted.place(task), aborted.how(task)])
        self.assertEqual(struck.row("c", "e"), [])

    def test_once_each(self):
        program = Program([("again", nest({"a": [("note", "x")]}))])
        run = StruckRun(program, ["a"], [BEGIN, ("a", "struck"), ("main", "closes"), BEGIN])
        self.assertEqual(run.let(), [("a", "note")])
        fresh = StruckRun(program, ["a"], [BEGIN, ("a", "note"), ("main", "closes"), BEGIN])
        self.assertEqual(fresh.let(), [("a", "note"), ("a", "struck")])
        self.assertNotEqual(run, fresh)
        self.assertEqual(fresh, StruckRun(program, ("a",), [BEGIN]))

    def test_like_a_run(self):
        for seed in range(20):
            program = made_up(seed)
            run, struck = Run(program), StruckRun(program, [task for task in program.tasks() if task != "main"][:2])
            for number in range(10):
                self.assertEqual([step for step in struck.let() if step[1] != "struck"], run.let())
                for task in program.tasks():
                    self.assertEqual([run.place(task), run.how(task), run.flags(task), run.held(task)],
                                     [struck.place(task), struck.how(task), struck.flags(task), struck.held(task)])
                self.assertEqual([run.events(), run.steps(), run.value("t")],
                                 [struck.events(), struck.steps(), struck.value("t")])
                if run.let():
                    step = run.let()[number % len(run.let())]
                    run, struck = run.more([step]), struck.more(steps=[step])
            self.assertFalse(run == struck)
            self.assertFalse(struck == run)

    def test_equal(self):
        program = example_11()
        one = StruckRun(program, ["a", "b"], [BEGIN, ("a", "struck"), ("b", "struck")])
        other = StruckRun(steps=[BEGIN, ("b", "struck"), ("a", "struck")], strikable=("b", "a"), program=program)
        self.assertEqual(one, other)
        self.assertNotEqual(one, StruckRun(program, ["a", "b"], [BEGIN, ("b", "struck")]))
        self.assertNotEqual(StruckRun(program, ["a"]), StruckRun(program, ["b"]))
        for other in any_objects():
            self.assertFalse(one == other)

    def test_errors(self):
        program = example_11()
        for thing in any_objects() + ["main", ["main"], ["a", "a"], ["a", "b", "a"], ["a", "zz"], [["a"]], {"a": 1}]:
            if isinstance(thing, (list, tuple)) and not thing:
                continue
            for work, more in ((StruckRun, (None,)), (struck_values, (None,)), (value_bars, (None, None))):
                error = raised(work, program, thing, *more)
                self.assertIsInstance(error, BadTasks)
        for thing, index in ((None, 0), ("a", 0), (["main"], 0), (["a", "a"], 1), (["b", "a", None, "a"], 2),
                             (("a", "zz"), 1)):
            self.assertEqual(raised(StruckRun, program, thing).index, index)
        for steps in any_objects():
            if steps not in ([], ()):
                self.assertEqual(raised(StruckRun, program, ["a"], steps).index, 0)
        run = StruckRun(program, ["a"], [BEGIN])
        for step in (("b", "struck"), ("main", "struck"), ("a", "struck", 0), ("zz", "struck"), None):
            error = raised(run.more, [("a", "call"), step])
            self.assertIsInstance(error, BadStep)
            self.assertEqual(error.index, 1)
        self.assertIsInstance(raised(StruckRun, program, ["a"], [("a", "struck")]), BadStep)
        self.assertIsInstance(raised(StruckRun, program, ["a"], [BEGIN, ("a", "struck"), ("a", "struck")]), BadStep)
        self.assertIsInstance(raised(run.place, None), NoTask)
        self.assertIsInstance(raised(run.row, "a", "e"), NoEntry)
        self.assertIsInstance(raised(run.value, "t"), NoThing)


class ValuesTest(unittest.TestCase):

    def test_example(self):
        self.assertEqual(struck_values(example_33(), ["x", "y"], "t"),
                         [("free", ()), ("kept", (BEGIN, ("x", "wait")))])
        self.assertEqual(value_bars(example_33(), ["x", "y"], "t", ["kept", "free"]), [("x", "y")])

    def test_what_goes_on_by_a_strike_adds_values(self):
        program = Program(nest({"a": [("call", "s", "e", [("use", "u", "put"), ("use", "u", "put")])],
                                "s": [("again", [("take", "e", [])])], "b": [("note", "x")]}), {"u": CELL})
        self.assertEqual(struck_values(thing="u", strikable=["s", "b"], program=program), [
            ("no", ()), ("one", (BEGIN, ("a", "call"), ("s", "struck"), ("a", "use"))),
            ("two", (BEGIN, ("a", "call"), ("s", "struck"), ("a", "use"), ("a", "use")))])
        self.assertEqual(value_bars(program, ["s", "b"], "u", ["two"]), [("b",)])
        self.assertEqual(value_bars(values=("no",), thing="u", strikable=("s", "b"), program=program), [("b", "s")])
        self.assertEqual(value_bars(program, ["s", "b"], "u", []), [("b", "s")])
        self.assertEqual(value_bars(program, [], "u", ["two"]), [()])

    def test_a_strike_adds_none_by_itself(self):
        deeds = [("use", "u", "put"), ("wait", "u", "get"), ("wait", "u", "all"), ("wait", "t", "have"),
                 ("use", "t", "give"), ("note", "x")]
        for seed in range(12):
            tasks = {name: [deeds[(seed * at + turn) % 6] for turn in range(seed % 3 + 1)]
                     for at, name in enumerate("abc")}
            program = Program(nest(tasks), {"t": LOCK, "u": CELL})
            for thing in "tu":
                self.assertEqual([value for value, _ in struck_values(program, ["a", "c"], thing)],
                                 [value for value, _ in struck_values(program, [], thing)])
                self.assertEqual(value_bars(program, ["a", "c"], thing, program.things()[thing].worths()), [("a", "c")])

    def test_several_greatest_lots(self):
        tasks = {"z": [("call", "s", "e", [("call", "v", "e", [("use", "u", "put")])])],
                 "s": [("again", [("take", "e", [])])], "v": [("again", [("take", "e", [])])]}
        program = Program(nest(tasks), {"u": CELL})
        self.assertEqual(value_bars(program, ["v", "z", "s"], "u", ["one"]), [("s", "z"), ("v", "z")])

    def test_errors(self):
        program = example_33()
        for thing in any_objects():
            for work, more in ((struck_values, ()), (value_bars, (None,))):
                error = raised(work, program, ["x"], thing, *more)
                self.assertIsInstance(error, NoThing)
                self.assertIs(error.thing, thing)
            if thing not in ([], ()):
                error = raised(value_bars, program, ["x"], "t", thing)
                self.assertIsInstance(error, BadValues)
                self.assertEqual(error.index, 0)
        for values, index in ((["free", "free"], 1), (["free", "kept", None], 2), (("kept", "one"), 1)):
            self.assertEqual(raised(value_bars, program, ["x"], "t", values).index, index)

    def test_by_trying_out(self):
        fewer = 0
        # The last ones are such that strikes add values.
        programs = [servers(seed) if seed % 2 else made_up(seed) for seed in range(60)]
        programs += [servers(seed) for seed in (117, 168, 311, 859)]
        programs += [made_up(seed) for seed in (336, 730, 1032, 1120)]
        for program in programs:
            strikable = [task for task in reversed(program.tasks()) if task != "main"][:3]
            calm = world_of(program)
            if len(calm.runs) > 30:
                continue
            world = World(StruckRun(program, strikable))
            for thing in program.things():
                fewer += self.check(program, strikable, thing, calm, world)
        self.assertGreater(fewer, 5)

    def check(self, program, strikable, thing, calm, world):
        best = {}
        for run in world.runs:
            key = (len(struck_in(run)), len(run.steps()), run.steps())
            best[run.value(thing)] = min(best.get(run.value(thing), key), key)
        worths = program.things()[thing].worths()
        self.assertEqual(struck_values(program, strikable, thing),
                         [(value, tuple(best[value][2])) for value in worths if value in best])
        never = set(worths) - {run.value(thing) for run in calm.runs}
        fewer = 0
        for values in lots_of(worths):
            kept = [lot for lot in lots_of(strikable) if not any(
                struck_in(run) <= set(lot) and run.value(thing) in never & set(values) for run in world.runs)]
            greatest = [lot for lot in kept if not any(set(lot) < set(more) for more in kept)]
            self.assertEqual(value_bars(program, strikable, thing, list(values)),
                             sorted(greatest, key=lambda lot: (len(lot), lot)))
            fewer += len(kept) < len(lots_of(strikable))
        return fewer


if __name__ == "__main__":
    unittest.main()
