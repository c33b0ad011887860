"""Points 5 and 7: bodies and programs."""

import unittest

from meettasks.errors import BadBody, BadThings, NoPath, NoTask
from meettasks.programs import Program
from tests.makers import CELL, LOCK, nest
from tests.objects import any_objects, raised

ALL_DEEDS = [
    ("note", "x"), ("set", "f", True), ("if", "f", [("note", "y")], []), ("pick", [[("note", "a")], []]),
    ("again", [("pick", [[("leave",)], [("use", "t", "give")]])]),
    ("nest", {"b": [("take", "e", [("note", "z")]), ("offer", [(None, "g", []), ("f", "h", [])],
                                                     ("else", [("wait", "t", "have")]))],
              "a": [("offer", [("f", "e", [])], ("end",)), ("offer", [(None, "e", [])], None)]},
     [("call", "b", "e", [("note", "w")]), ("abort", "a")]),
]


def wrong(body, things=None):
    """What BadBody keeps of a body."""
    try:
        Program(body, things)
    except BadBody as error:
        return error.task, error.path
    return None


class BodiesTest(unittest.TestCase):

    def test_all_deeds(self):
        program = Program(ALL_DEEDS, {"t": LOCK})
        self.assertEqual(program.tasks(), ["main", "a", "b"])
        self.assertEqual(program.master("a"), ("main", (5,)))
        self.assertIsNone(program.master("main"))
        self.assertEqual(program.body("a"), [("offer", (("f", "e", ()),), ("end",)),
                                             ("offer", ((None, "e", ()),), None)])
        self.assertEqual(program.things(), {"t": LOCK})

    def test_paths(self):
        program = Program(body=ALL_DEEDS, things={"t": LOCK})
        for task, path, deed in (
                ("main", (0,), ("note", "x")), ("main", [2, 0, 0], ("note", "y")),
                ("main", (3, 0, 0), ("note", "a")), ("main", (4, 0, 0, 0, 0), ("leave",)),
                ("main", (4, 0, 0, 1, 0), ("use", "t", "give")), ("main", (5, 0, 1), ("abort", "a")),
                ("main", (5, 0, 0, 0, 0), ("note", "w")), ("b", (0, 0, 0), ("note", "z")),
                ("b", (1, 2, 0), ("wait", "t", "have")), ("a", (1,), ("offer", ((None, "e", ()),), None))):
            self.assertEqual(program.deed(task, path), deed)
            self.assertEqual(program.deed(path=path, task=task), deed)
        for path in [(6,), (-1,), (0, 0), (0, 0, 0), (2, 2, 0), (2, 1, 0), (1, 2, 1), (5, 1, 0), (), (True,), (0, 0, 0),
                     ("0",), (3, 1, 0), 0, None, "a", {}, [[0]], (4, 0, 0, 2, 0), (10 ** 30,), (5, 0, 0, 0, 0, 0, 0)]:
            with self.assertRaises(NoPath) as caught:
                program.deed("main", path)
            self.assertIs(caught.exception.path, path)

    def test_no_task_is_first(self):
        program = Program(ALL_DEEDS, {"t": LOCK})
        for task in any_objects():
            if task in ("main", "a"):
                continue
            for work in (lambda: program.body(task), lambda: program.master(task), lambda: program.deed(task, None)):
                with self.assertRaises(NoTask) as caught:
                    work()
                self.assertIs(caught.exception.task, task)
        for path in any_objects():
            if path not in ([0], (0,)):
                self.assertIsInstance(raised(program.deed, "main", path), NoPath)

    def test_lists_and_tuples_alike(self):
        def lists(thing):
            if isinstance(thing, (list, tuple)):
                return [lists(part) for part in thing]
            if isinstance(thing, dict):
                return {key: lists(thing[key]) for key in reversed(list(thing))}
            return thing

        def tuples(thing):
            if isinstance(thing, (list, tuple)):
                return tuple(tuples(part) for part in thing)
            if isinstance(thing, dict):
                return {key: tuples(thing[key]) for key in thing}
            return thing
        one = Program(lists(ALL_DEEDS), {"t": LOCK})
        other = Program(tuples(ALL_DEEDS), {"t": LOCK})
        self.assertEqual(one, other)
        for task in one.tasks():
            self.assertEqual(repr(one.body(task)), repr(other.body(task)))
            self.assertEqual(one.body(task), list(tuples(one.body(task))))

    def test_copied_and_told_new(self):
        inner = [("note", "x")]
        tasks = {"a": inner}
        body = [("nest", tasks, inner)]
        things = {"t": LOCK}
        program = Program(body, things)
        inner.append(("note", "y"))
        tasks["b"] = []
        body.clear()
        things.clear()
        self.assertEqual(program.body("a"), [("note", "x")])
        self.assertEqual(program.body("main"), [("nest", {"a": (("note", "x"),)}, (("note", "x"),))])
        program.body("main")[0][1].clear()
        program.deed("main", (0,))[1].clear()
        program.body("a").clear()
        program.tasks().clear()
        program.things().clear()
        self.assertEqual(program, Program([("nest", {"a": [("note", "x")]}, [("note", "x")])], {"t": LOCK}))

    def test_equal(self):
        program = Program(nest({"a": [], "b": [("note", "x")]}), {"t": LOCK, "u": CELL})
        self.assertEqual(program, Program(nest({"b": [["note", "x"]], "a": ()}), {"u": CELL, "t": LOCK}))
        self.assertNotEqual(program, Program(nest({"a": [], "b": [("note", "x")]}), {"t": LOCK}))
        self.assertNotEqual(program, Program(nest({"a": [], "b": [("note", "y")]}), {"t": LOCK, "u": CELL}))
        self.assertEqual(Program([]), Program((), {}))
        self.assertEqual(list(program.things()), ["t", "u"])
        for other in any_objects():
            self.assertFalse(program == other)

    def test_order_of_tasks(self):
        program = Program([
            ("if", "f", nest({"z": nest({"k": [], "j": []}), "y": []}), [("note", "x")]),
            ("nest", {"b": [], "a": [("again", nest({"c": []}))]}, nest({"w": []}))])
        self.assertEqual(program.tasks(), ["main", "y", "z", "j", "k", "a", "c", "b", "w"])
        self.assertEqual(program.master("z"), ("main", (0, 0, 0)))
        self.assertEqual(program.master("c"), ("a", (0, 0, 0)))
        self.assertEqual(program.master("w"), ("main", (1, 0, 0)))


class BadProgramsTest(unittest.TestCase):

    def test_bad_things(self):
        for things, name in (([], None), ("t", None), ({"T": LOCK}, "T"), ({"a": LOCK, "b": None, 3: LOCK}, "b"),
                             ({(): LOCK}, ()), ({"a": LOCK, None: 1}, None), (0, None), (False, None)):
            with self.assertRaises(BadThings) as caught:
                Program(None, things)
            self.assertEqual(caught.exception.name, name)

    def test_no_list(self):
        for body in (None, "note", 0, {}, {"main": []}, LOCK):
            self.assertEqual(wrong(body), ("main", ()))

    def test_what_is_no_deed(self):
        good = ("take", "e", [])
        for deed in any_objects() + [
                ("note",), ("note", "X"), ("note", "x", "y"), ("notes", "x"), ("set", "f"), ("set", "f", 1),
                ("set", "F", True), ("if", "f", []), ("if", "f", [], [], []), ("if", None, [], []), ("if", "f", {}, []),
                ("pick", []), ("pick", [[]]), ("pick", [[], "a"]), ("pick", [], []), ("again",), ("again", "x"),
                ("again", [], []), ("leave", ()), ("leave", "x"), ("call", "a", "e"), ("call", "a", [], []),
                ("call", "a", "e", None), ("take", "e"), ("take", 3, []), ("take", "e", {}), ("offer", [], None),
                ("offer", [(None, "e", [])]), ("offer", [(None, "e")], None), ("offer", [("F", "e", [])], None),
                ("offer", [(None, "e", 0)], None), ("offer", [(None, "e", [])], ("else",)),
                ("offer", [(None, "e", [])], ("end", [])), ("offer", [(None, "e", [])], "end"),
                ("offer", [(None, "e", [])], ("other", [])), ("offer", [(None, "e", [])], ()), ("offer", {}, None),
                ("offer", [(None, "e", [])], [[]]), ("use", "t"), ("use", "t", "give", "x"), ("wait", "t", None),
                ("nest", {}, []), ("nest", {"A": []}, []), ("nest", {"a": "b"}, []), ("nest", {"a": []}),
                ("nest", [("a", [])], []), ("nest", {"a": [], 3: []}, []), ("abort",), ("abort", 3),
                ((), ()), ("", "x")]:
            self.assertEqual(wrong([good, deed, ("note", 7)], {"t": LOCK}), ("main", (1,)), deed)

    def test_a_deed_is_one_whatever_is_in_its_bodies(self):
        self.assertEqual(wrong([("if", "f", [], [0])]), ("main", (0, 1, 0)))
        self.assertEqual(wrong([("pick", [["x"], []]), 0]), ("main", (0, 0, 0)))
        self.assertEqual(wrong([("offer", [(None, "e", []), (None, "e", [0])], ("else", [0]))]), ("main", (0, 1, 0)))
        self.assertEqual(wrong([("offer", [(None, "e", [])], ("else", [0]))]), ("main", (0, 1, 0)))
        self.assertEqual(wrong([("nest", {"a": [0]}, [1])]), ("main", (0, 0, 0)))
        self.assertEqual(wrong([("nest", {"a": [0], "b": [1]}, []), ("note", "x")]), ("a", (0,)))

    def test_order_of_faults(self):
        # All of main comes ahead of the tasks of its nests; a task's nests come right behind it.
        self.assertEqual(wrong([("nest", {"a": [0]}, []), 1]), ("main", (1,)))
        self.assertEqual(wrong(nest({"b": [0], "a": nest({"c": [1]})})), ("c", (0,)))
        self.assertEqual(wrong(nest({"b": [0], "a": nest({"c": []}) + [1]})), ("a", (1,)))

    def test_who_is_seen(self):
        take = ("take", "e", [])
        call = ("call", "a", "e", [])
        self.assertIsNone(wrong(nest({"a": [take], "b": [call]}, [call])))
        self.assertIsNone(wrong(nest({"a": [take, call, ("abort", "a")]})))
        self.assertIsNone(wrong(nest({"a": [take], "b": nest({"c": [call]}, [("if", "f", [call], [])])})))
        self.assertIsNone(wrong(nest({"a": nest({"c": [("call", "a", "e", [])]}) + [take]})))
        self.assertEqual(wrong(nest({"a": [take]}) + [call]), ("main", (1,)))
        self.assertEqual(wrong([call] + nest({"a": [take]})), ("main", (0,)))
        self.assertEqual(wrong(nest({"b": nest({"a": [take]}), "c": [call]})), ("c", (0,)))
        self.assertEqual(wrong(nest({"a": [("abort", "main")]})), ("a", (0,)))
        self.assertEqual(wrong(nest({"a": [("call", "main", "e", [])]}) + [take]), ("a", (0,)))
        self.assertEqual(wrong([("abort", "main")]), ("main", (0,)))
        self.assertEqual(wrong(nest({"a": nest({"c": [take]}) + [("abort", "c")]})), ("a", (1,)))

    def test_entries(self):
        call = ("call", "a", "e", [])
        self.assertEqual(wrong(nest({"a": [("take", "g", [])]}, [call])), ("main", (0, 0, 0)))
        self.assertEqual(wrong(nest({"a": nest({"c": [("take", "e", [])]}), "b": [call]})), ("b", (0,)))
        self.assertIsNone(wrong(nest({"a": nest({"c": []}, [("take", "e", [])]), "b": [call]})))
        self.assertIsNone(wrong(nest({"a": [("again", [("offer", [("f", "e", [])], None)])], "b": [call]})))
        self.assertIsNone(wrong(nest({"a": [("offer", [("f", "g", [])], ("else", [("take", "e", [])]))],
                                      "b": [call]})))
        # What is no deed takes nothing: the call is against a rule ahead of it.
        self.assertEqual(wrong(nest({"a": [("take", "e", 0)]}, [call])), ("main", (0, 0, 0)))
        self.assertEqual(wrong(nest({"a": [("take", "e", []), 0]}, [call])), ("a", (1,)))

    def test_things(self):
        things = {"t": LOCK}
        self.assertIsNone(wrong([("use", "t", "give"), ("wait", "t", "have")], things))
        self.assertEqual(wrong([("use", "t", "have")], things), ("main", (0,)))
        self.assertEqual(wrong([("wait", "t", "give")], things), ("main", (0,)))
        self.assertEqual(wrong([("note", "x"), ("use", "u", "give")], things), ("main", (1,)))
        self.assertEqual(wrong([("use", "t", "give")]), ("main", (0,)))

    def test_leave(self):
        leave = ("leave",)
        note = ("note", "x")
        self.assertEqual(wrong([leave]), ("main", (0,)))
        self.assertEqual(wrong([("again", [note]), leave]), ("main", (1,)))
        self.assertEqual(wrong([("again", [("take", "e", [leave])])]), ("main", (0, 0, 0, 0, 0)))
        self.assertEqual(wrong([("again", [("offer", [(None, "e", [leave])], None)])]), ("main", (0, 0, 0, 0, 0)))
        self.assertEqual(wrong([("again", nest({"a": []}, [leave]))]), ("main", (0, 0, 0, 0, 0)))
        self.assertEqual(wrong([("again", nest({"a": [leave]}))]), ("a", (0,)))
        self.assertIsNone(wrong([("again", [("offer", [(None, "e", [])], ("else", [leave]))])]))
        self.assertIsNone(wrong([("again", [note, ("if", "f", [leave], [("pick", [[leave], []])])])]))
        self.assertIsNone(wrong(nest({"a": [("take", "e", [])], "b": [("again", [("call", "a", "e", [leave])])]})))
        self.assertIsNone(wrong([("take", "e", [("again", [note, leave])])]))

    def test_words_met_before(self):
        self.assertEqual(wrong(nest({"main": []})), ("main", (0,)))
        self.assertEqual(wrong(nest({"t": []}), {"t": LOCK}), ("main", (0,)))
        self.assertEqual(wrong(nest({"a": []}) + nest({"a": []})), ("main", (1,)))
        self.assertEqual(wrong(nest({"a": nest({"a": []})})), ("a", (0,)))
        self.assertEqual(wrong(nest({"b": nest({"a": []}), "a": []})), ("b", (0,)))
        # All deeds of main come ahead of those of the tasks of its nests.
        self.assertEqual(wrong(nest({"a": nest({"c": []})}) + nest({"c": []})), ("a", (0,)))
        self.assertEqual(wrong(nest({"a": nest({"b": []}), "b": []})), ("a", (0,)))
        self.assertEqual(wrong(nest({"b": nest({"c": []}), "a": nest({"c": []})})), ("b", (0,)))

    def test_ways_round_without_a_step(self):
        put = ("set", "f", True)
        note = ("note", "x")
        leave = ("leave",)
        for body, path in (([("again", [])], (0,)), ([("again", [put])], (0,)),
                           ([("again", [("if", "f", [note], [])])], (0,)),
                           ([("again", [("if", "f", [leave], [put])])], (0,)),
                           ([("again", [("again", [leave])])], (0,)),
                           ([note, ("again", [("again", [("if", "f", [leave], [note])]), put])], (1,)),
                           ([("again", [("again", [put])])], (0, 0, 0)),
                           ([("again", [note, ("again", [("if", "f", [leave], [])])])], (0, 0, 1))):
            self.assertEqual(wrong(body), ("main", path), body)
        for body in ([("again", [leave])], [("again", [put, leave])], [("again", [("again", [note, leave])])],
                     [("again", [("if", "f", [leave], [note])])], [("again", [("if", "f", [note], [note])])],
                     [("again", [("pick", [[], []])])], [("again", nest({"a": []}))],
                     [("again", [("again", [note])])], [("again", [("take", "e", [])])],
                     [("again", [("offer", [(None, "e", [])], ("else", []))])],
                     nest({"a": [], "b": [("again", [("abort", "a")])]})):
            self.assertIsNone(wrong(body), body)

    def test_any_objects_in_bodies(self):
        for thing in any_objects():
            for other in any_objects():
                for kind in ("note", "set", "pick", "again", "take", "offer", "nest", "abort", "use"):
                    raised(Program, [(kind, thing, other)], {"t": LOCK})
                raised(Program, [("if", "f", thing, other)])
                raised(Program, [("call", "a", thing, other)])
                raised(Program, [("offer", [(None, "e", thing)], other)])
                raised(Program, [("nest", {"a": thing}, other)])

    def test_limits(self):
        names = ["a", "b", "c", "d", "e", "f", "g"]
        program = Program(nest({name: [("note", name)] * 8 for name in names}))
        self.assertEqual(program.tasks(), ["main"] + names)
        deep = [("note", "x")]
        for at in range(29):
            deep = [("if", "f", [], deep)] if at % 2 else [("pick", [deep, [("note", "y")]])]
        program = Program(deep)
        self.assertEqual(program, Program(program.body("main")))
        self.assertEqual(program.deed("main", (0, 0, 0, 1) * 14 + (0, 0, 0)), ("note", "x"))
        three = nest({"a": nest({"b": nest({"c": [("call", "a", "e", [])]})}) + [("take", "e", [])]})
        self.assertEqual(Program(three).tasks(), ["main", "a", "b", "c"])


if __name__ == "__main__":
    unittest.main()
