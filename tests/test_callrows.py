"""Points 39 to 41: callers in rows, things alike for all callers, programs with least things."""

import unittest
from itertools import product

from meettasks.callrows import calls_that_part, gone_on, least_thing, like_values, with_least_things
from meettasks.errors import BadCalls, BadNumber, UnlikeNames
from meettasks.programs import Program
from meettasks.runs import Run
from meettasks.standing import first_orders
from meettasks.things import Thing
from tests.makers import CELL, LOCK, made_up, nest
from tests.objects import any_objects, raised
from tests.test_sentences import DOOR
from tests.test_uses import made_up_thing, names_of


def with_lost(worths):
    return Thing(worths, "free", {"drop": {"free": "free", "held": "free", "lost": "free"},
                                  "look": {"free": "free", "held": "held", "lost": "lost"}}, {"get": {"free": "held"}})


def gone_in_a_run(thing, calls):
    """As gone_on, by a run of tasks each of which uses the thing as it calls."""
    tasks = {"d": []}
    for caller, name in calls:
        kind = "use" if name in thing.deeds() else "wait"
        tasks.setdefault("abc"[caller], []).append((kind, "t", name))
    run = Run(Program(nest(tasks), {"t": thing}), [("main", "begin")])
    found = []
    for caller, name in calls:
        task = "abc"[caller]
        further = run.more([(task, "use" if name in thing.deeds() else "wait")])
        events = further.events()[len(run.events()):]
        gone = [caller] if name in thing.deeds() else []
        found.append(tuple(gone + ["abc".index(event[1]) for event in events if event[0] == "served"]))
        run = further
    return found


def all_calls(thing, callers, longest):
    """All rows of calls of at most so many."""
    level = [[]]
    found = [[]]
    for _ in range(longest):
        level = [row + [call] for row in level for call in product(range(callers), names_of(thing))
                 if raised(gone_on, thing, callers, row + [call]) is None]
        found += level
    return found


def at_start(thing, value):
    return Thing(thing.worths(), value, thing.deeds(), thing.entries())


class GoneTest(unittest.TestCase):

    def test_example(self):
        self.assertEqual(gone_on(DOOR, 2, [(0, "get"), (1, "get"), (0, "drop")]), [(0,), (), (0, 1)])
        self.assertEqual(gone_on(calls=([0, "get"],), callers=1, thing=DOOR), [(0,)])
        self.assertEqual(gone_on(DOOR, 1, []), [])

    def test_many_are_served(self):
        # Entries ascending, each again as long as it is open; the one who called first.
        self.assertEqual(gone_on(CELL, 3, [(2, "get"), (1, "get"), (0, "put"), (0, "put")]),
                         [(), (), (0, 2), (0, 1)])
        self.assertEqual(gone_on(CELL, 3, [(2, "get"), (1, "all"), (0, "put"), (0, "put"), (0, "put")]),
                         [(), (), (0, 2), (0,), (0, 1)])

    def test_as_runs(self):
        for seed in range(25):
            thing = made_up_thing(seed)
            for calls in all_calls(thing, 2, 3)[::3] + all_calls(thing, 3, 3)[::17]:
                self.assertEqual(gone_on(thing, 3, calls), gone_in_a_run(thing, calls))

    def test_errors(self):
        for thing in any_objects() + [0, -1]:
            if thing is True or type(thing) is not int or thing < 1:
                for work, parts in ((gone_on, (DOOR, thing, None)), (calls_that_part, (DOOR, LOCK, thing)),
                                    (like_values, (DOOR, thing)), (least_thing, (DOOR, thing))):
                    error = raised(work, *parts)
                    self.assertIsInstance(error, BadNumber)
                    self.assertIs(error.number, thing)
            if thing not in ([], ()):
                error = raised(gone_on, DOOR, 2, thing)
                self.assertIsInstance(error, BadCalls)
                self.assertEqual(error.index, 0)
        for call in any_objects() + [(2, "get"), (-1, "get"), (1, "get"), (0, "zz"), (False, "drop"), (0, None),
                                     (0, ["get"]), ("get", 0), (0, "drop", 1)]:
            error = raised(gone_on, DOOR, 2, [(0, "get"), (1, "get"), call])
            self.assertIsInstance(error, BadCalls)
            self.assertEqual(error.index, 2)


class AlikeTest(unittest.TestCase):

    def test_example(self):
        for worths in (["free", "held", "lost"], ["lost", "held", "free"], ("held", "free", "lost")):
            self.assertEqual(least_thing(with_lost(worths), 2).entries(), DOOR.entries())
            self.assertEqual(least_thing(with_lost(worths), 2).deeds(), DOOR.deeds())
        self.assertEqual(least_thing(with_lost(["lost", "free", "held"]), 2), DOOR)
        self.assertEqual(like_values(with_lost(["lost", "free", "held"]), 1), [("lost", "held"), ("free",)])
        self.assertIsNone(calls_that_part(with_lost(["free", "held", "lost"]), DOOR, 3))
        self.assertEqual(least_thing(DOOR, 3), DOOR)

    def test_parted(self):
        other = Thing(["free", "held"], "free", {"drop": {"free": "free", "held": "held"},
                                                 "look": {"free": "free", "held": "held"}}, {"get": {"free": "held"}})
        self.assertEqual(calls_that_part(DOOR, other, 2), [(0, "get"), (0, "drop"), (0, "get")])
        self.assertEqual(calls_that_part(callers=2, other=at_start(DOOR, "held"), one=DOOR), [(0, "get")])
        self.assertIsNone(calls_that_part(DOOR, DOOR, 3))
        self.assertIsInstance(raised(calls_that_part, DOOR, LOCK, 2), UnlikeNames)
        self.assertIsInstance(raised(calls_that_part, DOOR, LOCK, 0), BadNumber)
        one = Thing(["x"], "x", {"do": {"x": "x"}}, {"go": {}})
        for deeds, entries in (({"do": {"x": "x"}}, {}), ({}, {"go": {}}), ({"be": {"x": "x"}}, {"go": {}})):
            self.assertIsInstance(raised(calls_that_part, one, Thing(["x"], "x", deeds, entries), 1), UnlikeNames)
        # Names are the same, but not what they are names of.
        one = Thing(["x"], "x", {"do": {"x": "x"}}, {"go": {}})
        other = Thing(["x"], "x", {"go": {"x": "x"}}, {"do": {}})
        self.assertIsInstance(raised(calls_that_part, one, other, 1), UnlikeNames)

    def test_by_all_rows(self):
        lots = set()
        for seed in range(40):
            thing = made_up_thing(seed, values=3)
            for callers in (1, 2):
                self.check_lots(thing, callers)
                lots.add(len(like_values(thing, callers)))
                least = least_thing(thing, callers)
                self.assertIsNone(calls_that_part(thing, least, callers))
                self.assertEqual(least_thing(least, callers), least)
                self.assertEqual([value for value in thing.worths() if value in least.worths()], least.worths())
        self.assertEqual(lots, {1, 2, 3})

    def check_lots(self, thing, callers):
        found = like_values(thing, callers)
        self.assertEqual(sorted(value for lot in found for value in lot), sorted(thing.worths()))
        self.assertEqual([lot[0] for lot in found], [value for value in thing.worths()
                                                     if value in [lot[0] for lot in found]])
        for one in thing.worths():
            for other in thing.worths():
                parting = calls_that_part(at_start(thing, one), at_start(thing, other), callers)
                together = any(one in lot and other in lot for lot in found)
                self.assertEqual(parting is None, together)
                self.assertEqual(self.first_parting(at_start(thing, one), at_start(thing, other), callers),
                                 parting if parting is not None and len(parting) <= 3 else None)

    def first_parting(self, one, other, callers):
        for calls in sorted(all_calls(one, callers, 2), key=lambda row: (len(row), row)):
            for call in product(range(callers), names_of(one)):
                row = calls + [call]
                if raised(gone_on, one, callers, row) is None:
                    if raised(gone_on, other, callers, row) is not None:
                        break
                    if sorted(gone_on(one, callers, row)[-1]) != sorted(gone_on(other, callers, row)[-1]):
                        return row
        return None

    def test_no_alike_thing_has_fewer_values(self):
        for seed in range(60):
            thing = made_up_thing(seed, values=3, deeds=1, entries=1)
            least = least_thing(thing, 2)
            if len(least.worths()) == 3:
                for other in range(300):
                    little = made_up_thing(other, values=2, deeds=1, entries=1)
                    self.assertIsNotNone(calls_that_part(thing, little, 2))

    def test_more_callers_tell_no_fewer_values_apart(self):
        for seed in range(40):
            thing = made_up_thing(seed)
            few, more = like_values(thing, 1), like_values(thing, 3)
            for lot in more:
                self.assertTrue(any(set(lot) <= set(other) for other in few))


class LeastThingsTest(unittest.TestCase):

    def test_least_things_of_a_program(self):
        tasks = {"a": [("wait", "t", "get"), ("use", "t", "look"), ("use", "t", "drop")],
                 "b": [("wait", "t", "get"), ("use", "t", "drop"), ("use", "u", "put")]}
        program = Program(nest(tasks), {"t": with_lost(["lost", "free", "held"]), "u": CELL})
        found = with_least_things(program=program)
        self.assertEqual(found.things()["t"], DOOR)
        self.assertEqual([found.body("main"), list(found.things())], [program.body("main"), ["t", "u"]])
        self.assertEqual(found.things()["u"], least_thing(CELL, 3))

    def test_the_same_rows_of_steps(self):
        fewer = 0
        for seed in range(60):
            program = made_up(seed, many=2)
            thing = made_up_thing(seed)
            tables = {"give": thing.deeds()["k"]}, {"have": thing.entries()["l"]}
            program = Program(program.body("main"), {"t": Thing(thing.worths(), thing.start(), *tables), "u": CELL})
            least = with_least_things(program)
            fewer += len(least.things()["t"].worths()) < 4
            level = [[]]
            for _ in range(6):
                level = [row + [step] for row in level for step in Run(program, row).let()][:40]
                for row in level:
                    self.assertEqual(Run(program, row).let(), Run(least, row).let())
                    self.assertEqual([Run(program, row).how(task) for task in program.tasks()],
                                     [Run(least, row).how(task) for task in program.tasks()])
            self.assertLessEqual(len(first_orders(least)), len(first_orders(program)))
        self.assertGreater(fewer, 20)


if __name__ == "__main__":
    unittest.main()
