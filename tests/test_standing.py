"""Points 12 and 17: stands by first orders; what is always ahead."""

import unittest

from meettasks.errors import BadOrder, BadSpots, NoDeed, NoStand
from meettasks.programs import Program
from meettasks.standing import first_at, first_orders, order_without, stand_of, steps_at
from tests.makers import CELL, LOCK, example_11, example_19, nest, small_programs
from tests.objects import any_objects, raised
from tests.plain import all_orders, world_of

BEGIN = ("main", "begin")


class StandsTest(unittest.TestCase):

    def test_example(self):
        program = example_19()
        self.assertEqual(len(first_orders(program)), 12)
        self.assertEqual(first_at(program, {"a": "ended", "c": (1,)}), [BEGIN, ("a", "call"), ("c", "take")])
        self.assertEqual(first_at(spots={"a": "ended", "c": [1]}, program=program),
                         [BEGIN, ("a", "call"), ("c", "take")])

    def test_first_orders_are_by_fewest_then_as_python_compares(self):
        program = Program(nest({"b": [("note", "x")], "a": [("note", "y")]}, [("note", "z")]))
        self.assertEqual(first_orders(program)[:6], [
            (), (BEGIN,), (BEGIN, ("a", "note")), (BEGIN, ("b", "note")), (BEGIN, ("main", "note")),
            (BEGIN, ("a", "note"), ("b", "note"))])
        self.assertEqual(steps_at(program, 1), [(("main", "note"), 4), (("a", "note"), 2), (("b", "note"), 3)])

    def test_by_plain_stepping(self):
        for program in small_programs(25, range(400), 60):
            world = world_of(program)
            self.assertEqual(first_orders(program), [tuple(run.steps()) for run in world.runs])
            for at, run in enumerate(world.runs):
                self.assertEqual(steps_at(program, at), world.goes[at])
                self.assertEqual([step for step, _ in steps_at(program, at)], run.let())
                self.assertEqual(stand_of(program, run.steps()), at)

    def test_first_at_by_trying_out(self):
        for program in small_programs(10, range(400, 800), 40):
            world = world_of(program)
            tasks = program.tasks()
            for run in world.runs:
                for one in tasks:
                    for other in tasks:
                        spots = {one: run.place(one), other: run.place(other)}
                        want = next(some.steps() for some in world.runs
                                    if all(some.place(task) == spots[task] for task in spots))
                        self.assertEqual(first_at(program, spots), want)

    def test_first_at(self):
        program = example_11()
        self.assertEqual(first_at(program, {}), [])
        self.assertEqual(first_at(program, {"main": "absent"}), None)
        self.assertEqual(first_at(program, {"a": "ended", "b": (0,)}), None)
        self.assertEqual(first_at(program, {"main": (0,), "a": "absent"}), [])

    def test_bad_orders(self):
        program = example_11()
        for order in any_objects():
            if order in ([], ()):
                self.assertEqual(stand_of(program, order), 0)
                continue
            with self.assertRaises(BadOrder) as caught:
                stand_of(program, order)
            self.assertEqual(caught.exception.index, 0)
        with self.assertRaises(BadOrder) as caught:
            stand_of(program, [BEGIN, ["a", "call"], ("b", "note"), None])
        self.assertEqual(caught.exception.index, 2)
        self.assertEqual(stand_of(order=(["main", "begin"],), program=program), 1)

    def test_no_stand(self):
        program = example_11()
        many = len(first_orders(program))
        for number in any_objects() + [many]:
            if number in (0, 1) and not isinstance(number, bool):
                continue
            with self.assertRaises(NoStand) as caught:
                steps_at(program, number)
            self.assertIs(caught.exception.number, number)
        self.assertEqual(steps_at(program, many - 1), [])

    def test_bad_spots(self):
        program = Program([("set", "f", True), ("if", "f", [("note", "x")], [])]
                          + nest({"a": [("again", [("note", "y")])]}))
        for spots in any_objects():
            if isinstance(spots, dict):
                if spots not in ({}, {"main": "absent"}):
                    self.assertIsInstance(raised(first_at, program, spots), BadSpots)
                continue
            with self.assertRaises(BadSpots) as caught:
                first_at(program, spots)
            self.assertIs(caught.exception.thing, spots)
        for place in any_objects() + [(0,), (1,), (3,), "ready", (1, 1, 0), (2, 0, 0)]:
            if place in ("absent", "ended"):
                continue
            with self.assertRaises(BadSpots) as caught:
                first_at(program, {"a": "ended", "main": place, "zz": (0,)})
            self.assertEqual(caught.exception.thing, "main")
        with self.assertRaises(BadSpots) as caught:
            first_at(program, {"main": (1, 0, 0), "a": (0,)})
        self.assertEqual(caught.exception.thing, "a")
        self.assertEqual(first_at(program, {"main": (2,), "a": (0, 0, 0)}), [("main", "note"), BEGIN])

    def test_told_new(self):
        program = example_11()
        first_orders(program).clear()
        first_at(program, {"a": "ended"}).clear()
        steps_at(program, 0).clear()
        self.assertEqual(steps_at(program, 0), [(BEGIN, 1)])
        self.assertEqual(stand_of(program, first_at(program, {"a": (1,)})), stand_of(
            program, [BEGIN, ("a", "call"), ("b", "take"), ("b", "note")]))

    def test_limits(self):
        names = ["a", "b", "c", "d", "e", "f", "g"]
        program = Program(nest({name: [("note", name)] for name in names}, [("note", "z")]))
        self.assertEqual(len(first_orders(program)), 1 + 2 ** 8 + 1)
        tasks = {"a": [("use", "u", "put")] * 15, "b": [("wait", "u", "get")] * 2}
        self.assertLessEqual(len(first_orders(Program(nest(tasks), {"u": CELL}))), 300)
        long = Program([("use", "u", "put"), ("use", "t", "give")] * 30, {"u": CELL, "t": LOCK})
        self.assertEqual(len(first_orders(long)[-1]), 60)
        self.assertEqual(stand_of(long, first_orders(long)[-1]), 60)


class AlwaysAheadTest(unittest.TestCase):

    def test_ahead(self):
        program = example_11()
        self.assertIsNone(order_without(program, ("b", (0, 0, 0)), ("a", (1,))))
        self.assertIsNone(order_without(program, ("a", (0,)), ("a", (0,))))
        self.assertEqual(order_without(program, ("a", (1,)), ("b", (0, 0, 0))),
                         [BEGIN, ("a", "call"), ("b", "take"), ("b", "note")])
        # Begin and close are both of the nest.
        self.assertIsNone(order_without(program, ("main", (0,)), ("a", (0,))))
        self.assertEqual(order_without(program=program, one=["a", [1]], other=["main", [0]]), [BEGIN])

    def test_by_trying_out(self):
        for program in small_programs(12, range(800, 1400), 40):
            orders = all_orders(program, 6, 3000)
            if orders is None:
                continue
            world = world_of(program)
            rows = []
            for order in orders:
                at, row = 0, []
                for step in order:
                    row.append((step[0], world.runs[at].place(step[0])))
                    at = dict(world.goes[at])[step]
                rows.append((order, row))
            deeds = sorted({deed for _, row in rows for deed in row})
            for one in deeds:
                for other in deeds:
                    want = next((order for order, row in rows if row and row[-1] == other and one not in row), None)
                    found = order_without(program, one, other)
                    if want is not None or found is None:
                        self.assertEqual(found, want)
                    else:
                        self.assertGreater(len(found), 6)

    def test_no_deed(self):
        program = Program([("set", "f", True), ("again", [("note", "x"), ("leave",)])] + nest({"a": []}))
        good = ("main", (1, 0, 0))
        for thing in any_objects() + [("main", (0,)), ("main", (1,)), ("main", (1, 0, 1)), ("b", (0,)), ("a", (0,))]:
            with self.assertRaises(NoDeed) as caught:
                order_without(program, thing, thing)
            self.assertIs(caught.exception.thing, thing)
            with self.assertRaises(NoDeed) as caught:
                order_without(program, good, thing)
            self.assertIs(caught.exception.thing, thing)
        self.assertEqual(order_without(program, ("main", (2,)), good), [("main", "note")])


if __name__ == "__main__":
    unittest.main()
