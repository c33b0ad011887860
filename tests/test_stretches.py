"""Point 18: stretches that can, or cannot, be taken for one step."""

import unittest

from meettasks.errors import BadStretch
from meettasks.programs import Program
from meettasks.stretches import crossing
from tests.makers import CELL, LOCK, example_19_notes, made_up, nest
from tests.objects import any_objects, raised
from tests.plain import all_orders, distances_from, touching_marks, world_of

BEGIN = ("main", "begin")
T, U = ("use", "t", "give"), ("use", "u", "put")


def program_of(tasks):
    return Program(nest(tasks), {"t": LOCK, "u": CELL})


class CrossingTest(unittest.TestCase):

    def test_example(self):
        self.assertIsNone(crossing(example_19_notes(), ("a", (0,), 2)))

    def test_crossed(self):
        program = program_of({"a": [T, U], "b": [T, U], "c": [T]})
        want = [BEGIN, ("a", "use"), ("b", "use"), ("b", "use"), ("a", "use")]
        self.assertEqual(crossing(program, ("a", (0,), 2)), want)
        self.assertEqual(crossing(program=program, stretch=["a", [0], 2]), want)
        # One step of each pass at most touches others: c has t alone, b is gone.
        self.assertIsNone(crossing(program_of({"a": [T, U], "c": [T, T]}), ("a", (0,), 2)))

    def test_by_way_of_several_tasks(self):
        program = program_of({"a": [T, ("note", "x"), U], "b": [T, ("take", "e", [])],
                              "c": [("call", "b", "e", []), U]})
        self.assertEqual(crossing(program, ("a", (0,), 3)), [
            BEGIN, ("a", "use"), ("a", "note"), ("b", "use"), ("c", "call"), ("b", "take"), ("c", "use"), ("a", "use")])

    def test_what_is_asked_counts(self):
        other = ("offer", [(None, "e", [])], ("else", []))
        program = Program(nest({"a": [other, ("take", "e", [])], "b": [("call", "a", "e", [])]}))
        self.assertEqual(crossing(program, ("a", (0,), 2)), [BEGIN, ("a", "else"), ("b", "call"), ("a", "take")])
        program = program_of({"a": [T, ("call", "b", "e", [])], "b": [T, other, ("take", "e", [])]})
        self.assertEqual(crossing(program, ("a", (0,), 2)), [
            BEGIN, ("a", "use"), ("b", "use"), ("b", "else"), ("a", "call")])

    def test_passes_are_apart(self):
        # The use of the first pass is crossed, but the note that follows is of the second pass.
        program = program_of({"a": [("again", [("note", "x"), T])], "b": [T, T]})
        self.assertIsNone(crossing(program, ("a", (0, 0, 0), 2)))
        program = program_of({"a": [("again", [T, ("note", "x"), T])], "b": [T, T]})
        self.assertEqual(crossing(program, ("a", (0, 0, 0), 3)),
                         [BEGIN, ("a", "use"), ("a", "note"), ("b", "use"), ("a", "use")])

    def test_passes_are_apart_though_left_silently(self):
        body = [("if", "f", [T, ("set", "f", False)], [U, ("set", "f", True)]), ("set", "g", True)]
        program = program_of({"a": [("again", body)], "b": [T, U]})
        self.assertIsNone(crossing(program, ("a", (0, 0, 0), 2)))

    def test_an_abort_ends_a_pass(self):
        body = [("again", nest({"a": [T, U], "z": [("pick", [[], [("abort", "a")]])]}, [T, U]))]
        program = Program(body, {"t": LOCK, "u": CELL})
        self.assertEqual(crossing(program, ("a", (0,), 2))[-1], ("a", "use"))
        tasks = {"a": [("if", "f", [("note", "x")], [T]), ("note", "y")], "z": [T, ("abort", "a")]}
        self.assertIsNone(crossing(Program([("again", nest(tasks))], {"t": LOCK}), ("a", (0,), 2)))

    def test_meetings_inside(self):
        call = ("call", "s", "e", [])
        program = Program(nest({"a": [call, call], "s": [("take", "e", [("note", "x")]), ("take", "e", [])]}))
        self.assertEqual(crossing(program, ("a", (0,), 2)), [
            BEGIN, ("a", "call"), ("s", "take"), ("s", "note"), ("a", "call")])

    def test_bad_stretches(self):
        body = [("note", "x"), ("note", "y"), ("if", "f", [("again", [("note", "x")])], []), ("note", "z"),
                ("note", "x"), ("again", [("pick", [[("leave",)], []]), ("note", "x"), ("note", "y")])]
        program = Program(nest({"a": body}, [("note", "x")]))
        for thing in any_objects() + [
                ("a", (0,), 1), ("a", (0,), 3), ("a", (1,), 2), ("a", (4,), 2), ("a", (4,), 3), ("a", (0,), True),
                ("a", (5, 0, 0), 2), ("a", (5, 0, 2), 2), ("b", (0,), 2), ("main", (0,), 2), ("a", (0,), 10 ** 30),
                ("a", (0,), 2, 0), ("a", (-1,), 2), ("a", 0, 2), ("a", (True,), 2), ("a", (0,), None),
                ("a", (0, 0), 2)]:
            if thing == ("a", (0,), 2):
                continue
            error = raised(crossing, program, thing)
            self.assertIsInstance(error, BadStretch, thing)
            self.assertIs(error.thing, thing)
        for thing in (("a", (0,), 2), ["a", [3], 2], ("a", (5, 0, 1), 2)):
            self.assertIsNone(crossing(program, thing))

    def test_by_trying_out(self):
        crossed = free = 0
        for seed in range(90):
            program = made_up(seed, many=2 + seed % 2, most=4, rich=seed % 3 > 0)
            if "again" in repr([program.body(task) for task in program.tasks()]):
                continue
            world = world_of(program)
            orders = all_orders(program, 6, 900) if len(world.runs) <= 60 else None
            for stretch in self.stretches(program) if orders else []:
                found = self.check(program, world, orders, stretch)
                crossed += found
                free += not found
        self.assertGreater(crossed, 5)
        self.assertGreater(free, 50)

    def stretches(self, program):
        places = [(at,) for at in range(5)]
        places += [(at, one, two) for at in range(3) for one in range(2) for two in range(2)]
        return [(task, path, many) for task in program.tasks() for path in places for many in (2, 3)
                if not isinstance(raised(crossing, program, (task, path, many)), BadStretch)]

    def check(self, program, world, orders, stretch):
        """Holds the first crossed order, and what crossing None says, against all orders of six steps."""
        want = next((order for order in orders if self.is_crossed(program, world, order, stretch)), None)
        found = crossing(program, stretch)
        if want is not None or found is None or len(found) <= 6:
            self.assertEqual(found, want)
        if found is None:
            for order in orders[-12:]:
                same = distances_from(program, order)
                self.assertTrue(any(self.is_side_by_side(world, one, stretch) for one in same))
        elif want is not None:
            self.assertFalse(any(self.is_side_by_side(world, one, stretch) for one in distances_from(program, want)))
        return want is not None

    def passed(self, world, order, stretch):
        """The places of the steps of the stretch, which is passed once at most."""
        task, path, many = stretch
        found, at, deep = [], 0, len(path) - 1
        for number, step in enumerate(order):
            place = world.runs[at].place(task)
            if step[0] == task and place[:deep] == path[:deep] and path[deep] <= place[deep] < path[deep] + many:
                found.append(number)
            at = dict(world.goes[at])[step]
        return found

    def is_crossed(self, program, world, order, stretch):
        places = self.passed(world, order, stretch)
        if len(places) < 2:
            return False
        touching = touching_marks(program, order)
        for number in places[:-1]:
            behind, others = {number}, set()
            for later in range(number + 1, len(order)):
                if any((one, later) in touching for one in behind):
                    behind.add(later)
                    if order[later][0] != stretch[0] or any((one, later) in touching for one in others):
                        others.add(later)
            if any(later in others for later in places):
                return True
        return False

    def is_side_by_side(self, world, order, stretch):
        places = self.passed(world, list(order), stretch)
        return not places or places[-1] - places[0] == len(places) - 1


if __name__ == "__main__":
    unittest.main()
