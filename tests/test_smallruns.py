"""Point 75: the steps of code, held against an own small machine."""

import unittest

from meettasks.codes import Code, cut_code
from meettasks.errors import BadOrder, NoStand
from meettasks.smallruns import small_events, small_orders, small_steps
from tests.codemakers import OVER, all_codes, example_81
from tests.makers import CELL, LOCK
from tests.objects import any_objects, raised
from tests.plaincode import MachineWorld


def off(*row):
    return row, False


def on(*row):
    return row, True


def steps_behind(code, order):
    """The steps that can be done behind an order."""
    at = 0
    for step in order:
        at = dict(small_steps(code, at))[step]
    return [step for step, _ in small_steps(code, at)]


BEGIN = ("main", "begin")


class SmallRunsTest(unittest.TestCase):

    def test_example(self):
        code = example_81()
        self.assertEqual(small_steps(code=code, number=0), [(BEGIN, 1)])
        orders = small_orders(code=code)
        self.assertEqual([orders[0], orders[1], len(orders)], [(), (BEGIN,), 10])
        order = [BEGIN, ["a", "call"], ("b", "take"), ("b", "note")]
        self.assertEqual(small_events(order=order, code=code), [
            ("meets", "a", "b", "e"), ("note", "b", "y"), ("apart", "a", "b", "e"), ("ended", "b"), ("ended", "a")])
        cut = cut_code(code, [("b", 2)])
        self.assertEqual(small_events(cut, order), [("meets", "a", "b", "e"), ("note", "b", "y")])
        self.assertEqual(steps_behind(cut, [BEGIN, ("a", "call"), ("b", "take"), ("b", "note")]), [("b", "row"), ("c", "note")])
        # By itself the row moves both, and a comes first.
        self.assertEqual(small_events(cut, order + [("b", "row")])[2:], [
            ("apart", "a", "b", "e"), ("ended", "a"), ("ended", "b")])
        for told in (small_orders(code), small_steps(code, 0), small_events(code, order)):
            told.clear()
        self.assertEqual([len(small_orders(code)), len(small_steps(code, 0)), len(small_events(code, order))], [10, 1, 5])

    def test_before_any_step(self):
        code = Code({"main": [on("set", "f", True), on("unless", "f", 3), on("over"), off("note", "x"), OVER]})
        self.assertEqual([small_events(code, []), small_orders(code)], [[("ended", "main")], [()]])

    def test_against_an_own_machine(self):
        sizes, kinds = [], {}
        for code in all_codes(range(900)):
            world = MachineWorld(code, 120)
            if not world.is_whole:
                continue
            orders = small_orders(code)
            self.assertEqual(orders, [tuple(run.steps) for run in world.runs])
            for at, order in enumerate(orders):
                self.assertEqual(small_steps(code, at), world.goes[at])
                self.assertEqual(small_events(code, order), world.runs[at].events)
                for step, _ in world.goes[at]:
                    kinds[step[1]] = kinds.get(step[1], 0) + 1
            sizes.append(len(orders))
        self.assertGreater(sum(sizes), 10000)
        self.assertEqual(len(kinds), 13)
        self.assertGreater(min(kinds.values()), 8)

    def test_calls_of_who_is_not_there(self):
        code = Code({"main": [off("call", "a", "e", 3), off("note", "x"), OVER, off("note", "y"), OVER],
                     "b": [off("nest", ["a"]), OVER], "a": [off("take", "e"), OVER]})
        self.assertEqual(small_orders(code), [(), (("main", "call"),)])
        code = Code({"main": [off("nest", ["b"]), off("call", "a", "e", 3), OVER, off("note", "y"), OVER],
                     "b": [off("nest", ["a"]), OVER], "a": [off("take", "e"), on("free"), OVER]})
        order = [BEGIN, ("main", "call"), ("b", "begin")]
        self.assertEqual(steps_behind(code, order), [("a", "take")])
        self.assertEqual(small_events(code, order + [("a", "take")]), [
            ("ended", "b"), ("meets", "main", "a", "e"), ("apart", "main", "a", "e"), ("ended", "a"), ("ended", "main")])

    def test_begun_again(self):
        # A nest begins only if none of its tasks is there; what these began stays as it is.
        rows = {"main": [off("nest", ["a"]), off("go", 0)], "a": [off("nest", ["b"]), OVER],
                "b": [off("note", "x"), OVER]}
        code = Code(rows)
        order = [BEGIN, ("main", "row")]
        self.assertEqual(steps_behind(code, order), [("a", "begin")])
        self.assertEqual(steps_behind(code, order + [("a", "begin")]), [BEGIN, ("b", "note")])
        again = order + [("a", "begin"), BEGIN]
        self.assertEqual(steps_behind(code, again), [("main", "row"), ("b", "note")])
        self.assertEqual(steps_behind(code, again + [("b", "note")]), [("main", "row"), ("a", "begin")])
        # Nests that are never closed are still finitely many stands.
        self.assertEqual([len(small_orders(code)), len(MachineWorld(code, 50).runs)], [11, 11])

    def test_closes(self):
        # A "close" without a nest can always be done; it is of the nest that was begun last.
        rows = {"main": [off("close"), off("nest", ["a"]), off("nest", ["b"]), off("close"), off("close"), off("close"), OVER],
                "a": [off("note", "x"), OVER], "b": [off("note", "y"), OVER]}
        code = Code(rows)
        order = [("main", "closes"), BEGIN, BEGIN]
        self.assertEqual(steps_behind(code, order), [("a", "note"), ("b", "note")])
        self.assertEqual(steps_behind(code, order + [("b", "note")]), [("main", "closes"), ("a", "note")])
        self.assertEqual(steps_behind(code, order + [("b", "note"), ("main", "closes")]), [("a", "note")])
        self.assertEqual(small_events(code, order + [("b", "note"), ("main", "closes"), ("a", "note"), ("main", "closes"),
                                                     ("main", "closes")])[-1], ("ended", "main"))

    def test_begun_again_counts_as_the_last_one(self):
        rows = {"main": [off("nest", ["a"]), off("nest", ["b"]), off("pick", (0, 3)), off("close"), off("note", "x"), OVER],
                "a": [off("pick", (1, 2)), OVER, off("take", "e"), OVER], "b": [OVER]}
        code = Code(rows)
        order = [BEGIN, ("a", "pick", 0), BEGIN, ("main", "pick", 0), BEGIN, ("a", "pick", 1)]
        # Behind a, b, a it is b that closes first, begun once more or not.
        self.assertEqual(steps_behind(code, order), [BEGIN])
        self.assertEqual(steps_behind(code, order + [BEGIN, ("main", "pick", 1)]), [("main", "closes")])
        self.assertEqual(steps_behind(code, order + [BEGIN, ("main", "pick", 1), ("main", "closes")]), [("main", "note")])

    def test_held_ones(self):
        rows = {"main": [off("nest", ["a", "b", "s"]), off("close"), OVER], "a": [off("call", "s", "e", 1), OVER],
                "b": [off("call", "s", "e", 1), OVER],
                "s": [off("take", "e"), off("take", "e"), off("free"), off("free"), off("free"), OVER]}
        code = Code(rows)
        order = [BEGIN, ("a", "call"), ("b", "call"), ("s", "take"), ("s", "take"), ("s", "row")]
        # The last one first; "free" without one does nothing.
        self.assertEqual(small_events(code, order)[2:], [("apart", "b", "s", "e"), ("ended", "b")])
        self.assertEqual(small_events(code, order + [("s", "row")])[4:], [("apart", "a", "s", "e"), ("ended", "a")])
        self.assertEqual(small_events(code, order + [("s", "row"), ("s", "row")])[6:], [("ended", "s")])
        # Who ends by "over" breaks whom it holds, and all in its rows.
        rows["s"] = [off("take", "e"), OVER]
        self.assertEqual(small_events(Code(rows), order[:4]), [
            ("meets", "a", "s", "e"), ("ended", "s"), ("broken", "a", "s", "e"), ("broken", "b", "s", "e"),
            ("ended", "a"), ("ended", "b")])

    def test_ends(self):
        def let(*last, offered=("end",)):
            rows = {"main": [off("nest", ["a", "s"]), off("close"), OVER],
                    "a": [off("nest", ["c"]), off("close")] + list(last),
                    "c": [OVER], "s": [off("offer", [(None, "e", 0)], offered), OVER]}
            return steps_behind(Code(rows), [BEGIN, ("a", "begin")])

        ends = [("main", "ends"), ("a", "closes")]
        for last in ([OVER], [off("over")], [on("go", 4), off("note", "x"), OVER], [off("go", 3), off("go", 4), OVER]):
            self.assertEqual(let(*last), ends)
            self.assertEqual(let(*last, offered=None), ends[1:])
        for last in ([off("note", "x"), OVER], [on("set", "f", True), OVER], [on("unless", "f", 3), OVER], [on("free"), OVER],
                     [off("go", 3), off("go", 2)], [on("go", 3), off("close"), OVER]):
            self.assertEqual(let(*last), ends[1:])
        # A closing without a nest that is open is not ready to end.
        rows = {"main": [off("nest", ["a", "s"]), off("close"), OVER], "a": [off("close"), OVER],
                "s": [off("offer", [(None, "e", 0)], ("end",)), OVER]}
        self.assertEqual(steps_behind(Code(rows), [BEGIN]), [("a", "closes")])
        self.assertEqual(steps_behind(Code(rows), [BEGIN, ("a", "closes")]), [("main", "ends")])

    def test_tasks_called_like_things(self):
        rows = {"main": [off("nest", ["t"]), off("call", "t", "have", 3), OVER, OVER],
                "t": [off("wait", "t", "have"), off("wait", "t", "have"), off("take", "have"), on("free"), OVER],
                "u": [OVER]}
        code = Code(rows, {"t": LOCK, "u": CELL})
        order = [BEGIN, ("main", "call"), ("t", "wait"), ("t", "wait")]
        self.assertEqual(steps_behind(code, order), [])
        self.assertEqual(small_events(code, order), [("served", "t", "t", "have")])

    def test_errors(self):
        code = example_81()
        for thing in any_objects():
            if isinstance(thing, bool) or not isinstance(thing, int) or not 0 <= thing < 10:
                error = raised(small_steps, code, thing)
                self.assertIsInstance(error, NoStand)
                self.assertIs(error.number, thing)
            error = raised(small_events, code, thing)
            if thing not in ([], ()):
                self.assertIsInstance(error, BadOrder)
                self.assertEqual(error.index, 0)
            error = raised(small_events, code, [BEGIN, thing, "bad"])
            self.assertIsInstance(error, BadOrder)
            self.assertEqual(error.index, 1)
        for step in (("main", "row"), ("a", "row"), ("b", "take"), ("a", "call", 0), BEGIN, ("z", "note")):
            self.assertEqual(raised(small_events, code, [BEGIN, step]).index, 1)


if __name__ == "__main__":
    unittest.main()
