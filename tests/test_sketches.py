"""Point 91: programs that lack tasks, and what they can come to."""

import unittest
from itertools import product

from meettasks.errors import BadAsk, BadBody, BadFilling, BadOpen, BadThings
from meettasks.programs import Program
from meettasks.runs import Run
from meettasks.sketches import Sketch, verdicts
from tests.makers import CELL, LOCK, nest
from tests.objects import any_objects, raised
from tests.plain import World

NOTE = ("note", "x")


def server_and(unknown, more=(), things=None):
    """A sketch of a server that takes once, and of open tasks."""
    tasks = {"s": [("take", "e", [])], **{task: [] for task in unknown}, **dict(more)}
    return Sketch(nest(tasks), things, unknown)


def deeds_of(program, task, unknown):
    """All deeds of fillings of a task of main's one nest, or of one within it."""
    seen = []
    place = program.master(task)
    while place is not None:
        for other in program.tasks():
            master = program.master(other)
            if master is not None and master[0] == place[0] and place[1][:len(master[1])] == master[1]:
                seen.append(other)
        place = program.master(place[0])
    found = [NOTE]
    for other in seen:
        if other not in unknown:
            found += [("call", other, entry, ()) for entry in entries_of(program.body(other))]
    for name, thing in program.things().items():
        found += [("use", name, deed) for deed in thing.deeds()] + [("wait", name, entry) for entry in thing.entries()]
    return found


def entries_of(body):
    """The entries that a body takes or offers."""
    found = set()
    for deed in body:
        if deed[0] == "take":
            found |= {deed[1]} | entries_of(deed[2])
        elif deed[0] == "offer":
            for _, entry, inner in deed[1]:
                found |= {entry} | entries_of(inner)
        elif deed[0] in ("again", "nest", "call"):
            found |= entries_of(deed[-1])
    return found


def told_of(program):
    world = World(Run(program))
    ended = [run.how("main") == "ended" for run in world.runs]
    return {"ends": any(ended), "stuck": any(not ways and not ended[at] for at, ways in enumerate(world.goes))}


def plain_verdicts(sketch, unknown, ask):
    """The first lots of fillings by trying all of them."""
    program = sketch.program()
    rows = []
    for task in sorted(unknown):
        deeds = deeds_of(program, task, unknown)
        rows.append([list(row) for many in range(4) for row in product(deeds, repeat=many)])
    lots = sorted([list(lot) for lot in product(*rows)], key=lambda lot: (sum(map(len, lot)), lot))
    found = {}
    for lot in lots:
        filling = dict(zip(sorted(unknown), lot))
        told = told_of(sketch.filled(filling))
        for word in ask:
            if told[word]:
                found.setdefault(word, filling)
    return dict(sorted(found.items()))


class SketchTest(unittest.TestCase):

    def test_ordinary(self):
        sketch = server_and(["h"])
        self.assertEqual(sketch.program(), Program(nest({"s": [("take", "e", [])], "h": []})))
        self.assertEqual(sketch.filled(bodies={"h": [["call", "s", "e", []]]}),
                         Program(nest({"s": [("take", "e", [])], "h": [("call", "s", "e", [])]})))
        # Any bodies, also such as begin others, or are no fillings.
        deep = [("take", "g", [("note", "y")])] + nest({"k": [NOTE] * 9})
        self.assertEqual(sketch.filled({"h": deep}).tasks(), ["main", "h", "k", "s"])
        self.assertEqual(Sketch(unknown=("h",), things={"t": LOCK}, body=nest({"h": []})).program().things(), {"t": LOCK})
        bodies = {"h": [["note", "x"]]}
        made = sketch.filled(bodies)
        bodies["h"][0][1] = "y"
        self.assertEqual(made.body("h"), [NOTE])
        self.assertFalse(sketch == sketch.program())
        for thing in any_objects():
            self.assertFalse(sketch == thing)

    def test_equal(self):
        body = nest({"a": [], "b": [NOTE], "c": []})
        self.assertEqual(Sketch(body, None, ["a", "b"]), Sketch(body, {}, ("b", "a")))
        self.assertNotEqual(Sketch(body, None, ["a", "b"]), Sketch(body, None, ["a"]))
        self.assertNotEqual(Sketch(body, None, ["a"]), Sketch(body, {"t": LOCK}, ["a"]))
        self.assertNotEqual(Sketch(body), Sketch(nest({"a": [], "b": [], "c": []})))

    def test_open_tasks_deep_in_bodies(self):
        inner = ("nest", {"o": [NOTE]}, [])
        for body in ([("if", "f", [], [inner])], [("pick", [[], [inner]])], [("again", [inner, ("leave",)])],
                     [("call", "s", "e", [inner])], [("take", "g", [inner])], [("offer", [(None, "g", [inner])], None)],
                     [("offer", [(None, "g", [])], ("else", [inner]))], [("offer", [(None, "g", [inner])], ("end",))],
                     [("nest", {"p": []}, [inner])], nest({"p": [inner]})):
            sketch = Sketch(nest({"s": [("take", "e", [])], "a": body}), None, ["o"])
            program = sketch.filled({"o": [("note", "y"), ("call", "s", "e", [])]})
            self.assertEqual(program.body("o"), [("note", "y"), ("call", "s", "e", ())])
            self.assertEqual(sketch.filled({"o": [NOTE]}), sketch.program())
            self.assertEqual(program.tasks(), sketch.program().tasks())

    def test_errors(self):
        body = nest({"a": [("call", "b", "e", [])], "b": [("take", "e", [])], "c": nest({"d": []}), "o": [("abort", "a")]})
        self.assertIsInstance(raised(Sketch, [("leave",)], {"T": 1}, None), BadThings)
        self.assertIsInstance(raised(Sketch, [("leave",)], None, None), BadBody)
        for thing in any_objects():
            error = raised(Sketch, body, None, thing)
            if not isinstance(thing, (list, tuple)) or thing:
                self.assertIsInstance(error, BadOpen)
                self.assertEqual(error.index, 1 if isinstance(thing, (list, tuple)) and thing[0] == "a" else 0)
            if thing != "a":
                error = raised(Sketch, body, None, ["o", thing, "main"])
                self.assertIsInstance(error, BadOpen)
                self.assertEqual(error.index, 1)
        for unknown, index in ((["main"], 0), (["a", "b"], 1), (["c"], 0), (["d", "o", "d"], 2), (["o", "z"], 1)):
            error = raised(Sketch, body, None, unknown)
            self.assertIsInstance(error, BadOpen)
            self.assertEqual(error.index, index)
        self.assertIsNone(raised(Sketch, body, None, ["d", "o", "a"]))
        self.assertEqual(raised(Sketch, [NOTE], None, ["main"]).index, 0)
        # Who calls itself is called.
        self.assertEqual(raised(Sketch, nest({"a": [("take", "e", []), ("call", "a", "e", [])]}), None, ["a"]).index, 0)

    def test_bad_fillings(self):
        body = nest({"a": [("note", "x")], "b": [], "c": [], "s": [("take", "e", [])]})
        sketch = Sketch(body, None, ["c", "a", "b"])
        whole = {"a": [], "b": [], "c": []}
        for thing in any_objects():
            error = raised(sketch.filled, thing)
            self.assertIsInstance(error, BadFilling)
            self.assertEqual(error.task, "b" if isinstance(thing, dict) and "a" in thing else
                             "a" if isinstance(thing, dict) else None)
            if not isinstance(thing, (list, tuple)) or thing:
                error = raised(sketch.filled, {**whole, "b": thing, "c": None})
                self.assertEqual(error.task, "b")
        for bodies, task in (({"c": []}, "a"), ({"c": [], "a": [], "q": []}, "b"), ({**whole, "s": [], None: 1}, "s"),
                             ({3: [], **whole, "s": []}, 3), ({**whole, "a": [("leave",)], "c": None}, "a"),
                             ({**whole, "c": [("call", "s", "g", [])]}, "c"), ({**whole, "b": [("use", "t", "x")]}, "b"),
                             ({**whole, "b": nest({"s": []})}, "b"), ({**whole, "b": nest({"k": []}), "a": nest({"k": []})}, "b")):
            error = raised(sketch.filled, bodies)
            self.assertIsInstance(error, BadFilling)
            self.assertEqual(error.task, task)
        # Those behind are as they were: a calls what c, filled later, offers no more.
        sketch = Sketch(nest({"a": [], "c": []}), None, ["a", "c"])
        self.assertEqual(raised(sketch.filled, {"a": [("call", "c", "e", [])], "c": [("take", "e", [])]}).task, "a")
        self.assertIsNone(raised(sketch.filled, {"a": [("take", "e", [])], "c": [("call", "a", "e", [])]}))


class VerdictsTest(unittest.TestCase):

    def test_ordinary(self):
        sketch = server_and(["h"])
        call = [("call", "s", "e", ())]
        self.assertEqual(verdicts(sketch, ["ends", "stuck"]), {"ends": {"h": call}, "stuck": {"h": []}})
        self.assertEqual(list(verdicts(ask=("stuck", "ends"), sketch=sketch)), ["ends", "stuck"])
        self.assertEqual([verdicts(sketch, []), verdicts(sketch, ["stuck"])], [{}, {"stuck": {"h": []}}])
        verdicts(sketch, ["ends"])["ends"]["h"].clear()
        verdicts(sketch, ["ends"]).clear()
        self.assertEqual(verdicts(sketch, ["ends"]), {"ends": {"h": call}})
        # Without open tasks; and where there is none.
        self.assertEqual(verdicts(Sketch([NOTE]), ["stuck", "ends"]), {"ends": {}})
        self.assertEqual(verdicts(Sketch([("again", [NOTE])]), ["stuck", "ends"]), {})

    def test_order_of_lots(self):
        # Fewest deeds in all; then the lists, tasks ascending.
        sketch = server_and(["k", "h"])
        self.assertEqual(verdicts(sketch, ["ends"]), {"ends": {"h": [], "k": [("call", "s", "e", ())]}})
        two = Sketch(nest({"s": [("take", "e", []), ("take", "g", [])], "h": []}), None, ["h"])
        self.assertEqual(verdicts(two, ["ends", "stuck"]),
                         {"ends": {"h": [("call", "s", "e", ()), ("call", "s", "g", ())]}, "stuck": {"h": []}})

    def test_by_trying_all(self):
        lock = {"t": LOCK}
        sketches = [
            (server_and(["h"], {"w": [("wait", "t", "have"), ("wait", "t", "have")]}, lock), ["h"]),
            (server_and(["k", "h"], {"a": [("abort", "s"), ("abort", "h")]}), ["h", "k"]),
            (Sketch(nest({"a": [("wait", "u", "all")], "o": [NOTE]}), {"u": CELL}, ["o"]), ["o"]),
            (Sketch(nest({"a": [("wait", "u", "all")] + nest({"o": []}), "b": [("use", "u", "put")]}), {"u": CELL}, ["o"]), ["o"]),
            (Sketch(nest({"s": [("again", [("offer", [(None, "e", []), ("f", "g", [])], ("end",)), ("set", "f", True)])],
                          "o": []}), None, ["o"]), ["o"]),
            (Sketch(nest({"s": [("take", "e", [])]}, nest({"o": []})) + nest({"r": [("take", "g", [])]}), None, ["o"]), ["o"]),
            (Sketch(nest({"s": [("take", "e", [])]}, nest({"o": [], "q": [("take", "g", [])]})), None, ["o"]), ["o"]),
            (Sketch(nest({"s": [("take", "e", nest({"p": []}))], "b": nest({"o": [], "q": [("take", "h", [])]})}), None,
                    ["o", "p"]), ["o", "p"])]
        for sketch, unknown in sketches:
            self.assertEqual(verdicts(sketch, ["ends", "stuck"]), plain_verdicts(sketch, unknown, ["ends", "stuck"]))

    def test_no_verdict_that_was_not_there(self):
        for sketch, unknown in ((server_and(["h", "k"]), ["h", "k"]), (server_and(["h"], {}, {"t": LOCK}), ["h"])):
            every = verdicts(sketch, ["ends", "stuck"])
            for word in every:
                self.assertTrue(told_of(sketch.filled(every[word]))[word])
                program = sketch.filled({task: every[word][task] if task == "h" else [] for task in unknown})
                left = Sketch(program.body("main"), program.things(), [task for task in unknown if task != "h"])
                told = verdicts(left, ["ends", "stuck"])
                self.assertLessEqual(set(told), set(every))
                self.assertIn(word, told)

    def test_at_the_limits(self):
        # One open task with two hundred and fifty-nine fillings, two with two hundred and twenty-five.
        sketch = Sketch(nest({"s": [("again", [("offer", [(None, "e", [("note", "y")]), (None, "g", [])], None)])],
                              "x": [("again", [("call", "s", "e", []), ("use", "u", "put"), NOTE])], "h": []}),
                        {"u": CELL}, ["h"])
        self.assertEqual(verdicts(sketch, ["ends", "stuck"]), {})
        sketch = Sketch(nest({"s": [("again", [("offer", [(None, "e", [("note", "y")])], None)])],
                              "x": [("again", [("call", "s", "e", []), NOTE])], "h": [], "k": []}), None, ["h", "k"])
        self.assertEqual(verdicts(sketch, ["ends", "stuck"]), {})

    def test_errors(self):
        sketch = server_and(["h"])
        for thing in any_objects():
            if not isinstance(thing, (list, tuple)) or thing:
                error = raised(verdicts, sketch, thing)
                self.assertIsInstance(error, BadAsk)
                self.assertIs(error.thing, thing)
            ask = ["ends", thing]
            self.assertIs(raised(verdicts, sketch, ask).thing, ask)
        for ask in (["ends", "ends"], ["sticks"], "ends", {"ends": 1}, ["stuck", "ends", "stuck"]):
            self.assertIs(raised(verdicts, sketch, ask).thing, ask)


if __name__ == "__main__":
    unittest.main()
