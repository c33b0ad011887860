"""Point 87: logs of single tasks that nobody put together."""

import random
import unittest

from meettasks.apartlogs import ahead_of, fitting_order
from meettasks.errors import BadApart, BadLine
from meettasks.programs import Program
from tests.makers import example_19, nest
from tests.objects import any_objects, raised
from tests.plainlogs import runs_of
from tests.test_logs import X, Z, example_89

MEETS = {task: [("meets", task, "c", "e")] for task in "ab"}


def made_up_apart(program, runs, seed):
    """Lists of events of some tasks of one run, now and then with a wrong one."""
    luck = random.Random(seed)
    events = luck.choice(runs.rows)[1]
    found = {}
    for task in luck.sample(program.tasks(), luck.randint(0, min(3, len(program.tasks())))):
        mine = [event for event in events if event[1] == task]
        mine = mine[:luck.randint(0, len(mine))]
        if mine and luck.random() < 0.15:
            mine[luck.randrange(len(mine))] = luck.choice([one for one in runs.all_events() if one[1] == task])
        found[task] = mine
    return found


def orders_of(run, apart):
    """By lines the place of each among the events of a run."""
    many, found = {}, {}
    for at, event in enumerate(run.events()):
        if event[1] in apart:
            found[event[1], many.get(event[1], 0)] = at
            many[event[1]] = many.get(event[1], 0) + 1
    return found


class ApartTest(unittest.TestCase):

    def test_ordinary(self):
        program = example_19()
        begin = ("main", "begin")
        self.assertEqual(fitting_order(program, MEETS), [begin, ("a", "call"), ("b", "call"), ("c", "take"), ("c", "take")])
        self.assertEqual(fitting_order(apart={"b": (list(MEETS["b"][0]),)}, program=program),
                         [begin, ("b", "call"), ("c", "take")])
        self.assertEqual([fitting_order(program, {}), fitting_order(program, {"a": []})], [[], []])
        self.assertIsNone(fitting_order(program, {"a": [("ended", "a")]}))
        self.assertIsNone(fitting_order(program, {"a": [("note", "a", "nowhere")]}))
        self.assertEqual(ahead_of(program, MEETS, ("a", 0), ("b", 0)), "open")
        ended = {**MEETS, "c": [("ended", "c")]}
        self.assertEqual([ahead_of(program, ended, ["c", 0], ("a", 0)), ahead_of(program, ended, ("b", 0), ("c", 0))],
                         ["never", "sure"])
        long = {"a": MEETS["a"] + [("apart", "a", "c", "e"), ("ended", "a")], "c": [("ended", "c")], "b": []}
        self.assertEqual([ahead_of(program, long, ("a", 0), ("a", 1)), ahead_of(program, long, ("a", 2), ("a", 0)),
                          ahead_of(other=("c", 0), one=("a", 2), apart=long, program=program)], ["sure", "never", "open"])
        self.assertIsNone(ahead_of(program, {"a": [("ended", "a"), ("ended", "a")]}, ("a", 0), ("a", 1)))
        # Just the lists count, not what comes behind them: and up to where all lists have come.
        self.assertEqual(fitting_order(example_89(), {"a": [X]}), [("main", "begin"), ("a", "pick", 0), ("a", "note")])
        fitting_order(program, MEETS).clear()
        self.assertEqual(len(fitting_order(program, MEETS)), 5)

    def test_ahead_of_all_steps(self):
        program = Program([])
        self.assertEqual(fitting_order(program, {"main": [("ended", "main")]}), [])
        self.assertIsNone(fitting_order(program, {"main": [("note", "main", "x")]}))

    def test_events_of_one_step(self):
        # The step that ends a task brings its end ahead of what is broken by it.
        program = Program(nest({"a": [("call", "c", "e", [("note", "x")])], "b": [("note", "y"), ("abort", "c")],
                                "c": [("take", "g", []), ("take", "e", [])]}))
        apart = {"c": [("ended", "c")], "a": [("broken", "a", "c", "e")]}
        self.assertEqual(ahead_of(program, apart, ("c", 0), ("a", 0)), "sure")

    def test_against_all_runs(self):
        told = {}
        for seed, (program, runs) in enumerate(runs_of(range(500))):
            for number in range(3):
                apart = made_up_apart(program, runs, 40 * seed + number)
                found = [run for run in runs.runs if all(
                    [event for event in run.events() if event[1] == task][:len(apart[task])] == apart[task]
                    for task in apart)]
                self.assertEqual(fitting_order(program, apart), found[0].steps() if found else None)
                orders = [orders_of(run, apart) for run in found]
                lines = [(task, at) for task in apart for at in range(len(apart[task]))]
                for one in lines:
                    for other in lines:
                        if one != other:
                            ahead = {order[one] < order[other] for order in orders}
                            answer = "open" if len(ahead) == 2 else "sure" if True in ahead else "never" if ahead else None
                            self.assertEqual(ahead_of(program, apart, one, other), answer)
                            told[answer] = told.get(answer, 0) + 1
        self.assertGreater(min(told[answer] for answer in ("sure", "never", "open", None)), 15)

    def test_errors(self):
        program = example_89()
        for thing in any_objects():
            for work in (lambda apart: fitting_order(program, apart), lambda apart: ahead_of(program, apart, None, None)):
                error = raised(work, thing)
                if not isinstance(thing, dict):
                    self.assertIsInstance(error, BadApart)
                    self.assertIsNone(error.task)
                if not isinstance(thing, (list, tuple)) or thing:
                    error = raised(work, {"main": [], "a": thing, "b": 0})
                    self.assertIsInstance(error, BadApart)
                    self.assertEqual(error.task, "a")
                error = raised(work, {"main": [], "a": [Z, thing]})
                self.assertEqual(error.task, "a")
            error = raised(ahead_of, program, {"a": [X, Z]}, thing, None)
            self.assertIsInstance(error, BadLine)
            self.assertIs(error.thing, thing)
            error = raised(ahead_of, program, {"a": [X, Z]}, ("a", 1), thing)
            self.assertIsInstance(error, BadLine)
            self.assertIs(error.thing, thing)
        for key, worth in ((None, []), ("z", []), (3, []), (("a",), []), ("a", [("note", "main", "x")]), ("a", [("gap", 1)]),
                           ("a", [("ended", "main")]), ("a", [("meets", "main", "a", "e")]), ("a", [("note", "a")])):
            error = raised(fitting_order, program, {"main": [], key: worth, "q": None})
            self.assertIsInstance(error, BadApart)
            self.assertEqual(error.task, key)
        for line in (("a", 2), ("a", -1), ("a", True), ("main", 0), ("z", 0), ("a",), ("a", 0, 0), (None, 0), ("a", None)):
            error = raised(ahead_of, program, {"a": [X, Z], "main": []}, line, ("a", 7))
            self.assertIs(error.thing, line)
        one, other = ("a", 1), ["a", 1]
        error = raised(ahead_of, program, {"a": [X, Z]}, one, other)
        self.assertIsInstance(error, BadLine)
        self.assertIs(error.thing, other)


if __name__ == "__main__":
    unittest.main()
