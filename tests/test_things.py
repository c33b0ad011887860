"""Point 6: guarded things."""

import unittest

from meettasks.errors import BadDeeds, BadEntries, BadStart, BadValues
from meettasks.programs import Program
from meettasks.things import Thing
from tests.objects import any_objects, raised

VALUES = ["no", "yes"]
DEEDS = {"put": {"yes": "yes", "no": "yes"}, "cut": {"no": "no", "yes": "no"}}
ENTRIES = {"get": {"yes": "no"}, "never": {}}


class ThingTest(unittest.TestCase):

    def test_told(self):
        thing = Thing(VALUES, "no", DEEDS, ENTRIES)
        self.assertEqual(thing.worths(), ["no", "yes"])
        self.assertEqual(thing.start(), "no")
        self.assertEqual(thing.deeds(), DEEDS)
        self.assertEqual(list(thing.deeds()), ["cut", "put"])
        self.assertEqual(list(thing.deeds()["put"]), ["no", "yes"])
        self.assertEqual(thing.entries(), ENTRIES)
        self.assertEqual(list(thing.entries()), ["get", "never"])
        order = Thing(("yes", "no"), "no", DEEDS, {"get": {"no": "no", "yes": "yes"}})
        self.assertEqual(order.worths(), ["yes", "no"])
        self.assertEqual(list(order.deeds()["cut"]), ["yes", "no"])
        self.assertEqual(list(order.entries()["get"]), ["yes", "no"])

    def test_by_name_and_copied(self):
        values = list(VALUES)
        deeds = {name: dict(DEEDS[name]) for name in DEEDS}
        entries = {name: dict(ENTRIES[name]) for name in ENTRIES}
        thing = Thing(entries=entries, deeds=deeds, start="no", values=values)
        values.append("more")
        deeds["put"]["no"] = "no"
        entries.clear()
        self.assertEqual(thing, Thing(VALUES, "no", DEEDS, ENTRIES))
        thing.worths().clear()
        thing.deeds()["put"].clear()
        thing.entries()["get"].clear()
        self.assertEqual(thing, Thing(tuple(VALUES), "no", DEEDS, ENTRIES))

    def test_equal(self):
        thing = Thing(VALUES, "no", DEEDS, ENTRIES)
        self.assertNotEqual(thing, Thing(["yes", "no"], "no", DEEDS, ENTRIES))
        self.assertNotEqual(thing, Thing(VALUES, "yes", DEEDS, ENTRIES))
        self.assertNotEqual(thing, Thing(VALUES, "no", {"put": DEEDS["put"]}, ENTRIES))
        self.assertNotEqual(thing, Thing(VALUES, "no", DEEDS, {}))
        for other in any_objects():
            if not isinstance(other, Thing):
                self.assertFalse(thing == other)

    def test_bad_values(self):
        for values, index in ((None, 0), ("no", 0), ([], 0), ((), 0), ({"no": 1}, 0), (["no", "no"], 1),
                              (["no", "Yes"], 1), (["no", "toolongxy"], 1), ([""], 0), (["a", "b", 3, "a"], 2)):
            with self.assertRaises(BadValues) as caught:
                Thing(values, "no", DEEDS, ENTRIES)
            self.assertEqual(caught.exception.index, index)

    def test_bad_start_keeps_the_object(self):
        for start in any_objects() + ["maybe"]:
            with self.assertRaises(BadStart) as caught:
                Thing(VALUES, start, None, None)
            self.assertIs(caught.exception.thing, start)

    def test_bad_deeds(self):
        good = {"no": "no", "yes": "no"}
        for deeds, name in ((None, None), ([], None), ({"Put": good}, "Put"), ({3: good}, 3),
                            ({"a": good, "b": {"no": "no"}, "C": good}, "b"),
                            ({"a": dict(good, more="no")}, "a"), ({"a": {"no": "no", "yes": "maybe"}}, "a"),
                            ({"a": {"no": "no", "yes": []}}, "a"), ({"a": ["no", "yes"]}, "a"),
                            ({"a": {"no": "no", 3: "no"}}, "a")):
            with self.assertRaises(BadDeeds) as caught:
                Thing(VALUES, "no", deeds, None)
            self.assertEqual(caught.exception.name, name)

    def test_bad_entries(self):
        for entries, name in ((None, None), (("get",), None), ({"put": {}}, "put"), ({"get": {"maybe": "no"}}, "get"),
                              ({"a": {}, None: {}}, None), ({"a": {}, "b": {"no": 1}}, "b"), ({"a": {1: "no"}}, "a"),
                              ({"a": [], "put": {}}, "a")):
            with self.assertRaises(BadEntries) as caught:
                Thing(VALUES, "no", DEEDS, entries)
            self.assertEqual(caught.exception.name, name)

    def test_first_named_error_first(self):
        self.assertIsInstance(raised(Thing, 0, 0, 0, 0), BadValues)
        self.assertIsInstance(raised(Thing, ["a"], 0, 0, 0), BadStart)
        self.assertIsInstance(raised(Thing, ["a"], "a", 0, 0), BadDeeds)
        self.assertIsInstance(raised(Thing, ["a"], "a", {}, 0), BadEntries)
        self.assertIsNone(raised(Thing, ["a"], "a", {}, {}))

    def test_any_objects(self):
        for thing in any_objects():
            raised(Thing, thing, "a", {}, {})
            self.assertIsInstance(raised(Thing, VALUES, "no", {"put": thing}, {}), BadDeeds)
            raised(Thing, VALUES, "no", thing, thing)
            raised(Thing, VALUES, "no", {}, {"get": thing})
            raised(Thing, VALUES, "no", {}, {"get": {"no": thing}})

    def test_limits(self):
        values = ["a", "b", "c", "d", "e", "f"]
        turn = {value: values[(at + 1) % 6] for at, value in enumerate(values)}
        thing = Thing(values, "f", {name: turn for name in "klmn"}, {name: turn for name in "wxyz"})
        self.assertEqual(len(thing.deeds()), 4)
        self.assertEqual(Program([("wait", "t", "z"), ("use", "t", "k")], {"t": thing}).things(), {"t": thing})


if __name__ == "__main__":
    unittest.main()
