"""Point 74: code, and what is against it."""

import unittest

from meettasks.codes import Code
from meettasks.errors import BadCode, BadThings, NoTask, Silent
from tests.codemakers import OVER, example_81
from tests.makers import CELL, LOCK
from tests.objects import any_objects, raised

NOTE = (("note", "x"), False)
THINGS = {"t": LOCK}


def off(*row):
    return row, False


def on(*row):
    return row, True


class CodeTest(unittest.TestCase):

    def test_ordinary(self):
        code = example_81()
        self.assertEqual(code.tasks(), ["main", "a", "b", "c"])
        self.assertEqual(code.rows("main"), [(("nest", ("a", "b", "c")), False), (("close",), False), OVER])
        self.assertEqual(code.rows(task="a"), [(("call", "b", "e", 1), False), OVER])
        self.assertEqual(code.things(), {})
        rows = {"main": ([["offer", [[None, "e", 1], ("f", "g", 0)], ["else", 2]], False], [["pick", [0, 2]], False],
                         [("over",), True])}
        told = [off("offer", ((None, "e", 1), ("f", "g", 0)), ("else", 2)), off("pick", (0, 2)), OVER]
        code = Code(things={"u": CELL, "t": LOCK}, rows=rows)
        self.assertEqual(code.rows("main"), told)
        self.assertEqual(code, Code({"main": told}, {"t": LOCK, "u": CELL}))
        self.assertEqual(list(code.things()), ["t", "u"])
        for told in (code.rows("main"), code.tasks(), code.things()):
            told.clear()
        rows["main"][0][0][0] = "no row"
        self.assertEqual([len(code.rows("main")), code.tasks(), len(code.things())], [3, ["main"], 2])
        self.assertNotEqual(code, Code({"main": code.rows("main")}, {"t": LOCK}))
        self.assertNotEqual(code, Code({"main": code.rows("main")[:2] + [off("over")]}, code.things()))
        for thing in any_objects():
            self.assertFalse(code == thing)
            if thing != "main":
                error = raised(code.rows, thing)
                self.assertIsInstance(error, NoTask)
                self.assertIs(error.task, thing)

    def test_all_rows(self):
        rows = [off("note", "x"), on("set", "f", True), off("set", "f", False), on("unless", "f", 0), on("go", 5),
                off("pick", (0, 1, 0)), off("call", "a", "e", 0), off("call", "a", "g", 0), off("take", "e"),
                off("offer", ((None, "e", 1), ("f", "g", 2)), None), off("offer", ((None, "e", 1),), ("end",)),
                off("offer", ((None, "e", 1),), ("else", 0)), on("free"), off("free"), off("use", "t", "give"),
                off("wait", "t", "have"), off("nest", ("b", "c")), off("close"), off("abort", "b"), off("abort", "a"),
                off("go", 20), off("unless", "g", 21), off("over"), off("over")]
        self.assertEqual(Code({"main": [OVER], "a": rows, "b": [OVER], "c": [OVER]}, THINGS).rows("a"), rows)
        for last in (off("go", 0), off("offer", ((None, "e", 0),), None), off("pick", (0, 0)), off("over"), on("over")):
            self.assertEqual(Code({"main": [last]}).rows("main"), [last])

    def test_order_of_tasks(self):
        rows = {task: [OVER] for task in ("main", "z", "y", "x", "w", "v", "u", "t", "s")}
        rows["main"] = [off("nest", ("z",)), off("nest", ("x", "w")), OVER]
        rows["z"] = [off("nest", ["y"]), OVER]
        rows["u"] = [off("nest", ["t"]), OVER]
        self.assertEqual(Code(rows).tasks(), ["main", "z", "y", "w", "x", "s", "u", "t", "v"])
        # Those that begin one another come last.
        rows["v"], rows["s"] = [off("nest", ["s"]), OVER], [off("nest", ["v"]), OVER]
        self.assertEqual(Code(rows).tasks(), ["main", "z", "y", "w", "x", "u", "t", "s", "v"])
        rows["t"], rows["u"] = [off("nest", ["t"]), OVER], [OVER]
        self.assertEqual(Code(rows).tasks(), ["main", "z", "y", "w", "x", "u", "s", "t", "v"])

    def test_things_and_keys_come_first(self):
        for thing in any_objects():
            error = raised(Code, thing, {"A": LOCK})
            self.assertIsInstance(error, BadThings)
            self.assertEqual(error.name, "A")
            if not isinstance(thing, dict):
                error = raised(Code, thing)
                self.assertIsInstance(error, BadCode)
                self.assertEqual((error.task, error.number), ("main", None))
        for key in (None, 3, True, "", "B", "longwordx", "a b", (), ("a",)):
            for rows in ({"main": [], key: [OVER], "B": [OVER]}, {key: [OVER]}):
                error = raised(Code, rows)
                self.assertIsInstance(error, BadCode)
                self.assertEqual((error.task, error.number), (key, None))
        for rows in ({}, {"a": ["no row"]}):
            error = raised(Code, rows)
            self.assertEqual((error.task, error.number), ("main", None))

    def check(self, rows, task, number, things=None):
        error = raised(Code, rows, things)
        self.assertIsInstance(error, BadCode, rows)
        self.assertEqual((error.task, error.number), (task, number))

    def test_no_rows(self):
        for worth in any_objects():
            if not isinstance(worth, (list, tuple)) or not worth:
                self.check({"main": worth}, "main", None)
                self.check({"b": worth, "main": [OVER], "c": None}, "b", None)
                self.check({"b": [NOTE], "main": [OVER], "a": worth}, "a", None)
            self.check({"main": [OVER], "b": [NOTE, worth, OVER]}, "b", 1)
            self.check({"main": [OVER], "b": [NOTE, (worth, False), OVER]}, "b", 1)
            if not isinstance(worth, bool):
                self.check({"main": [OVER], "b": [NOTE, (("over",), worth), OVER]}, "b", 1)

    def test_rows_that_are_none(self):
        wrong = [("note",), ("note", "X"), ("note", "x", "y"), ("set", "f"), ("set", "f", 1), ("set", 1, True),
                 ("unless", "f"), ("unless", "F", 0), ("unless", "f", None), ("go",), ("go", True), ("go", "x"),
                 ("go", 3), ("go", -1), ("unless", "f", 3), ("pick", (0,)), ("pick", (0, 3)), ("pick", (0, None)),
                 ("pick", 0), ("call", "a", "e"), ("call", "a", "e", 3), ("call", "a", "E", 0), ("call", 1, "e", 0),
                 ("call", "a", "e", None), ("take",), ("take", None), ("offer", (), None), ("offer", (("f", "e"),), None),
                 ("offer", ((None, "e", 3),), None), ("offer", ((0, "e", 0),), None), ("offer", ((None, "e", 0),)),
                 ("offer", ((None, "e", 0),), ("else",)), ("offer", ((None, "e", 0),), ("else", 3)),
                 ("offer", ((None, "e", 0),), ("end", 0)), ("offer", ((None, "e", 0),), ()), ("free", 0),
                 ("offer", ((None, "e", 0),), (None,)), ("offer", None, None), ("use", "t"), ("use", "t", "have"),
                 ("use", "u", "give"), ("use", "t", 1), ("wait", "t", "give"), ("wait", "u", "have"), ("wait", "t"),
                 ("nest", ()), ("nest", ("b", "b")), ("nest", ("B",)), ("nest", "b"), ("nest", ("main",)),
                 ("nest", ("c", "q")), ("close", 1), ("abort",), ("abort", "q"), ("abort", "main"), ("over", 1),
                 ("call", "q", "e", 0), ("call", "a", "q", 0), ("call", "main", "e", 0), ("nothing",), (), ("if", "f", 0),
                 ("begin",), ("again", 0), (["note"], "x"), ({}, 0), ("else", 0), ("note", []), ("set", [], True),
                 ("unless", {}, 0), ("go", []), ("pick", [[], 0]), ("call", [], "e", 0), ("call", "a", {}, 0),
                 ("call", "a", "e", 0, 0), ("take", []), ("offer", {0: (None, "e", 0)}, None), ("offer", "abc", None),
                 ("offer", ({0: None, 1: "e", 2: 0},), None), ("offer", ((None, "E", 0),), None),
                 ("offer", ((None, "e", None),), None), ("offer", ((None, "e", True),), None),
                 ("offer", (([], "e", 0),), None), ("offer", ((None, "e", 0, 0),), None), ("offer", (None,), None),
                 ("offer", ((None, "e", 0),), {0: "end"}), ("offer", ((None, "e", 0),), "end"),
                 ("offer", ((None, "e", 0),), ("nope",)), ("offer", ((None, "e", 0),), ("nope", 0)),
                 ("offer", ((None, "e", 0),), (["else"], 0)), ("offer", ((None, "e", 0),), ("else", True)),
                 ("offer", ((None, "e", 0),), ("else", 0, 0)), ("use", [], "give"), ("use", "t", []), ("wait", {}, "have"),
                 ("wait", "t", {}), ("nest", "bc"), ("nest", ("b", 1)), ("nest", ([],)), ("nest", {"b": 1}), ("abort", []),
                 {0: "over"}, "over", ("over", None)]
        for row in wrong:
            rows = {"main": [off("take", "e"), OVER], "a": [off("take", "e"), (row, False), OVER], "c": ["none"]}
            self.check(rows, "a", 1, THINGS)
        for row in (("note", "x"), ("pick", (0, 0)), ("call", "a", "e", 0), ("take", "e"), ("use", "t", "give"),
                    ("offer", ((None, "e", 0),), None), ("wait", "t", "have"), ("nest", ("b",)), ("close",), ("abort", "a")):
            self.assertIsNone(raised(Code, {"main": [OVER], "a": [off("take", "e"), off(*row), OVER], "b": [OVER]}, THINGS))
            self.check({"main": [OVER], "a": [off("take", "e"), on(*row), OVER], "b": [OVER]}, "a", 1, THINGS)
        for row in (("note", "x"), ("set", "f", True), ("unless", "f", 0), ("call", "a", "e", 0), ("take", "e"), ("free",),
                    ("use", "t", "give"), ("wait", "t", "have"), ("nest", ("b",)), ("close",), ("abort", "a")):
            self.check({"main": [OVER], "a": [off("take", "e"), off(*row)], "b": [OVER]}, "a", 1, THINGS)

    def test_what_others_have(self):
        call = off("call", "b", "e", 0)
        self.check({"main": [call, OVER], "b": [off("take", "g"), OVER]}, "main", 0)
        self.check({"main": [call, OVER], "b": []}, "b", None)
        self.check({"main": [call, OVER], "b": None}, "b", None)
        self.check({"main": [OVER], "b": [OVER], "a": [call, OVER]}, "a", 0)
        # Rows of a right form count, whatever else is against them.
        self.check({"main": [OVER], "c": [off("take", "e")], "a": [off("call", "c", "e", 0), OVER]}, "c", 0)
        self.check({"main": [OVER], "c": [off("offer", [(None, "e", 7)], None)], "a": [off("call", "c", "e", 0), OVER]},
                   "c", 0)
        self.check({"main": [OVER], "c": [("take", "e"), OVER], "a": [off("call", "c", "e", 0), OVER]}, "a", 0)
        self.check({"main": [OVER], "c": [(("take", "e"), 0), OVER], "a": [off("call", "c", "e", 0), OVER]}, "a", 0)
        # Of two nests with one task the first one is told.
        self.check({"main": [off("nest", ["c"]), OVER], "a": [off("nest", ["b", "c"]), OVER], "b": [OVER], "c": [OVER]},
                   "a", 0)
        self.check({"main": [off("nest", ["c"]), off("nest", ["c"]), OVER], "c": [OVER]}, "main", 0)
        self.check({"main": [off("nest", ["c"]), OVER], "c": [off("nest", ["c", "c"]), OVER]}, "c", 0)
        self.assertIsNone(raised(Code, {"main": [OVER], "a": [off("nest", ["a"]), off("take", "e"), off("call", "a", "e", 0),
                                                              OVER]}))

    def test_silent(self):
        def silent(rows, task, spot):
            error = raised(Code, rows)
            self.assertIsInstance(error, Silent)
            self.assertEqual((error.task, error.spot), (task, spot))

        silent({"main": [OVER], "b": [on("go", 0)], "c": [on("go", 0)]}, "b", 0)
        silent({"main": [on("go", 1), on("set", "f", True), on("unless", "f", 1), OVER], "z": [on("go", 0)]}, "main", 1)
        silent({"main": [on("set", "f", True), on("unless", "f", 0), OVER]}, "main", 0)
        # As far as rows tell: the flag is always True.
        silent({"main": [on("free"), on("unless", "f", 3), OVER, on("go", 0)]}, "main", 0)
        silent({"main": [OVER], "a": [NOTE, on("go", 4), OVER, OVER, on("go", 1)]}, "a", 1)
        for rows in ([on("go", 1), off("go", 0)], [off("set", "f", True), on("go", 0)], [on("go", 1), OVER, on("go", 0)],
                     [on("unless", "f", 1), on("unless", "f", 2), OVER], [on("set", "f", True), NOTE, on("go", 0)]):
            self.assertIsNone(raised(Code, {"main": rows}))
        # BadCode of any row comes ahead.
        self.check({"main": [OVER], "b": [on("go", 0)], "c": [NOTE]}, "c", 0)


if __name__ == "__main__":
    unittest.main()
