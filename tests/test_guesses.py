"""Points 84 and 85: what happened in a gap, surely or perhaps; where one is behind a log."""

import unittest

from meettasks.errors import BadEvent, BadGap, BadLog, NoTask, NoThing
from meettasks.guesses import (
    happened, happened_runs, places_behind, possible_lines, sure_lines, values_behind)
from meettasks.programs import Program
from tests.makers import LOCK, example_33, nest
from tests.objects import any_objects, raised
from tests.plainlogs import made_up_log, runs_of
from tests.test_logs import X, Y, Z, example_89


class HappenedTest(unittest.TestCase):

    def test_example(self):
        program = example_89()
        log = [("gap", 1), Z]
        runs = [[("main", "begin"), ("a", "pick", number), ("a", "note"), ("a", "note")] for number in (0, 1)]
        self.assertEqual(happened(program, log, 0, X), "open")
        self.assertEqual(happened(event=list(X), number=0, log=[["gap", 1], Z], program=program), "open")
        self.assertEqual(happened_runs(program, log, 0, X), (runs[0], runs[1]))
        self.assertEqual(happened_runs(event=Y, number=0, log=log, program=program), (runs[1], runs[0]))
        self.assertEqual(happened(program, log, 0, ("ended", "a")), "never")
        self.assertEqual(happened_runs(program, log, 0, ("ended", "a")), (None, runs[0]))
        self.assertEqual([sure_lines(program, log, 0), possible_lines(program, log, 0)], [[], [X, Y]])
        log = [X, ("gap", None), ("ended", "main"), ("gap", 0)]
        self.assertEqual(sure_lines(number=0, log=log, program=program), [("ended", "a"), Z])
        self.assertEqual([happened(program, log, 0, Z), happened_runs(program, log, 0, Z)[1]], ["sure", None])
        self.assertEqual([possible_lines(number=1, log=log, program=program), happened(program, log, 1, Z)], [[], "never"])
        for told in (sure_lines(program, log, 0), possible_lines(program, log, 0), happened_runs(program, log, 0, Z)[0]):
            told.clear()
        self.assertEqual(len(sure_lines(program, log, 0)), 2)

    def test_none_fits(self):
        program = example_89()
        log = [("gap", 1), X, ("gap", None)]
        self.assertIsNone(happened(program, log, 0, Y))
        self.assertEqual([happened_runs(program, log, 1, Y), sure_lines(program, log, 1), possible_lines(program, log, 0)],
                         [(None, None), [], []])

    def test_in_each_way(self):
        # One run, but two ways: the note is lost in the one gap or in the other one.
        program = example_89()
        log = [("gap", None), ("gap", None), Z]
        self.assertEqual([happened(program, log, 0, X), happened(program, log, 1, X)], ["open", "open"])
        run = [("main", "begin"), ("a", "pick", 0), ("a", "note"), ("a", "note")]
        self.assertEqual(happened_runs(program, log, 0, X), (run, run))

    def test_no_other_way_with_it(self):
        # Either of two brings the one that takes to its note, in as many steps.
        tasks = {task: [("note", "x"), ("call", "c", "e", [])] for task in "ab"}
        program = Program(nest({**tasks, "c": [("take", "e", [("note", "z")])]}))
        runs = [[("main", "begin"), (task, "note"), (task, "call"), ("c", "take"), ("c", "note")] for task in "ab"]
        for log in ([("gap", None), ("note", "c", "z")], [("gap", 2), ("note", "c", "z")]):
            self.assertEqual(happened_runs(program, log, 0, ("note", "a", "x")), (runs[0], runs[1]))
            self.assertEqual(happened_runs(program, log, 0, ("note", "b", "x")), (runs[1], runs[0]))

    def test_against_all_runs(self):
        told = {}
        for seed, (program, runs) in enumerate(runs_of(range(360))):
            for number in range(3):
                log = made_up_log(runs, 10 * seed + number)
                found = runs.fits(log)
                for gap in range(len([line for line in log if line[0] == "gap"])):
                    self.check_gap(program, log, gap, found, runs.all_events(), told)
        self.assertGreater(min(told[answer] for answer in ("sure", "open", "never", None)), 150)

    def check_gap(self, program, log, gap, found, events, told):
        sure, possible = [], []
        for event in events + [("note", "a", "nowhere"), ("ended", "nobody")]:
            runs = [[run.steps() for run, ways in found if any((event in way[gap]) == is_in for way in ways)]
                    for is_in in (True, False)]
            if runs[0]:
                possible.append(event)
                if not runs[1]:
                    sure.append(event)
            if len(possible) < 4 or not event[0] == "note":
                firsts = tuple(rows[0] if rows else None for rows in runs)
                self.assertEqual(happened_runs(program, log, gap, event), firsts)
                answer = None if not found else "never" if not runs[0] else "open" if runs[1] else "sure"
                self.assertEqual(happened(program, log, gap, event), answer)
                told[answer] = told.get(answer, 0) + 1
        self.assertEqual(sure_lines(program, log, gap), sure)
        self.assertEqual(possible_lines(program, log, gap), possible)

    def test_errors(self):
        program = example_89()
        log = [("gap", 1), Z, ("gap", None)]
        for thing in any_objects():
            is_number = isinstance(thing, int) and not isinstance(thing, bool) and 0 <= thing < 2
            for work in (happened, happened_runs, sure_lines, possible_lines):
                more = (None,) if work in (happened, happened_runs) else ()
                error = raised(work, program, log, thing, *more)
                if not is_number:
                    self.assertIsInstance(error, BadGap)
                    self.assertIs(error.number, thing)
                error = raised(work, program, [X, thing], None, *more)
                self.assertIsInstance(error, BadLog)
                self.assertEqual(error.index, 1)
            self.assertEqual(raised(sure_lines, program, log, 2).number, 2)
            for work in (happened, happened_runs):
                error = raised(work, program, log, 1, thing)
                self.assertIsInstance(error, BadEvent)
                self.assertIs(error.event, thing)
        for event in (("gap", 1), ("gap", None), ("note", "a"), ("ended", "A"), ("begin", "a"), ("note", "a", 1)):
            self.assertIsInstance(raised(happened, program, log, 0, event), BadEvent)


class BehindTest(unittest.TestCase):

    def test_ordinary(self):
        program = example_89()
        self.assertEqual(places_behind(program, [], "a"), ["absent"])
        self.assertEqual(places_behind(program, [("gap", None)], "a"), ["absent", "ended", (1,)])
        self.assertEqual(places_behind(task="a", log=[X], program=program), [(1,)])
        self.assertEqual(places_behind(program, [X], "main"), [(0,)])
        self.assertEqual(places_behind(program, [Z], "main"), [])
        nested = Program(nest({"a": [("pick", [[("note", "x"), ("note", "y")], [("note", "x"), ("note", "z")]])]}))
        self.assertEqual(places_behind(nested, [X], "a"), [(0, 0, 1), (0, 1, 1)])
        program = example_33()
        self.assertEqual(values_behind(program, [], "t"), ["free"])
        self.assertEqual(values_behind(thing="t", log=[("gap", 1), ("gap", None)], program=program), ["free", "kept"])
        self.assertEqual(values_behind(program, [("ended", "x"), ("ended", "x")], "t"), [])
        # In the order of worths().
        turned = Program(nest({"x": [("wait", "t", "have"), ("note", "x")]}),
                         {"t": LOCK.__class__(["kept", "free"], "free", LOCK.deeds(), LOCK.entries())})
        self.assertEqual(values_behind(turned, [("gap", None)], "t"), ["kept", "free"])
        values_behind(turned, [("gap", None)], "t").clear()
        places_behind(turned, [], "x").clear()
        self.assertEqual(len(values_behind(turned, [("gap", None)], "t")), 2)

    def test_against_all_runs(self):
        many = 0
        for seed, (program, runs) in enumerate(runs_of(range(500))):
            for number in range(2):
                log = made_up_log(runs, 20 * seed + number)
                found = [run for run, _ in runs.fits(log)]
                for task in program.tasks():
                    places = {run.place(task) for run in found}
                    words = [word for word in ("absent", "ended") if word in places]
                    self.assertEqual(places_behind(program, log, task), words + sorted(places - {"absent", "ended"}))
                    many += len(places) > 1
                for thing, worths in [(name, told.worths()) for name, told in program.things().items()]:
                    values = {run.value(thing) for run in found}
                    self.assertEqual(values_behind(program, log, thing), [worth for worth in worths if worth in values])
        self.assertGreater(many, 150)

    def test_rings_of_events(self):
        # Behind so many events of a ring, however many.
        program = Program([("note", "x"), ("again", [("note", "x"), ("note", "y"), ("note", "z")])])
        for many in list(range(12)) + [10 ** 18, 10 ** 18 + 1, 10 ** 18 + 2]:
            place = (0,) if many == 0 else (1, 0, (many - 1) % 3)
            self.assertEqual(places_behind(program, [("gap", many)], "main"), [place])
            self.assertEqual(places_behind(program, [("note", "main", "x"), ("gap", many)], "main"), [(1, 0, many % 3)])

    def test_no_place_comes_of_nothing(self):
        # With one line more no place comes that could not be come to from those behind the lines ahead.
        program = example_33()
        log = [("gap", 1), ("served", "y", "t", "have"), ("ended", "y")]
        for many in range(len(log) + 1):
            self.assertEqual(values_behind(program, log[:many], "t") == [], places_behind(program, log[:many], "x") == [])

    def test_errors(self):
        program = example_33()
        for thing in any_objects():
            for work, kind, name in ((places_behind, NoTask, "task"), (values_behind, NoThing, "thing")):
                if thing not in ("main",):
                    error = raised(work, program, [], thing)
                    self.assertIsInstance(error, kind)
                    self.assertIs(getattr(error, name), thing)
                error = raised(work, program, [thing], None)
                self.assertIsInstance(error, BadLog)


if __name__ == "__main__":
    unittest.main()
