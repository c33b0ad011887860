"""Points 37 and 38: rows of uses of a thing, rings by which an entry stays shut."""

import random
import unittest
from itertools import combinations, product

from meettasks.errors import BadNames, NoEntryName
from meettasks.things import Thing
from meettasks.uses import first_open, helpers_of, idle_lots, is_shut_ring, shut_ring
from tests.makers import CELL
from tests.objects import any_objects, raised
from tests.test_sentences import DOOR

VALUES = ["a", "b", "c", "d"]


def made_up_thing(seed, values=4, deeds=2, entries=2):
    luck = random.Random(seed)
    worths = VALUES[:values]
    led = {name: {value: luck.choice(worths) for value in worths} for name in "kmp"[:deeds]}
    let = {name: {value: luck.choice(worths) for value in luck.sample(worths, luck.randint(0, 2))}
           for name in "lnq"[:entries]}
    return Thing(worths[::-1], luck.choice(worths), led, let)


def names_of(thing):
    return sorted(list(thing.deeds()) + list(thing.entries()))


def value_behind(thing, start, row):
    """The value behind a row of uses, None if it is none."""
    tables = {**thing.deeds(), **thing.entries()}
    value = start
    for name in row:
        if value not in tables[name]:
            return None
        value = tables[name][value]
    return value


def all_rows(names, longest):
    for many in range(longest + 1):
        yield from product(names, repeat=many)


def lots_of(names):
    return [lot for many in range(len(names) + 1) for lot in combinations(names, many)]


def has_ring(thing, entry, names):
    """Whether some row round shut values uses all these names, by trying out sets of values."""
    tables = {**thing.deeds(), **thing.entries()}
    coming = {value_behind(thing, thing.start(), row) for row in all_rows(names_of(thing), 3)} - {None}
    shut = [value for value in thing.worths() if value in coming and value not in thing.entries()[entry]]
    for many in range(1, len(shut) + 1):
        for lot in combinations(shut, many):
            inner = [(value, name) for value in lot for name in tables if tables[name].get(value) in lot]
            used = {name for _, name in inner}
            if inner and set(names) <= used and all(
                    joined(tables, lot, one, other) for one in lot for other in lot):
                return True
    return False


def joined(tables, lot, one, other):
    seen, coming = {one}, [one]
    while coming:
        value = coming.pop()
        for name in tables:
            target = tables[name].get(value)
            if target in lot and target not in seen:
                seen.add(target)
                coming.append(target)
    return other in seen


class OpenTest(unittest.TestCase):

    def test_ordinary(self):
        self.assertEqual(first_open(DOOR, "get", []), [])
        self.assertEqual(first_open(CELL, "all", ["put"]), ["put", "put"])
        self.assertEqual(first_open(names=("get", "put"), entry="all", thing=CELL), ["put", "put"])
        self.assertIsNone(first_open(CELL, "all", ["get"]))
        self.assertIsNone(first_open(CELL, "get", ()))
        dead = Thing(["x"], "x", {"do": {"x": "x"}}, {"go": {}})
        self.assertIsNone(first_open(dead, "go", ["do", "go"]))

    def test_by_trying_out(self):
        found = set()
        for seed in range(60):
            thing = made_up_thing(seed)
            for entry in thing.entries():
                for names in lots_of(names_of(thing)):
                    rows = [list(row) for row in all_rows(names, 3)
                            if value_behind(thing, thing.start(), row) in thing.entries()[entry]]
                    told = first_open(thing, entry, list(names))
                    self.assertEqual(told, rows[0] if rows else None)
                    found.add(None if told is None else len(told))
        self.assertEqual(found, {None, 0, 1, 2, 3})

    def test_errors(self):
        for thing in any_objects() + ["drop", "look"]:
            for work in (first_open, shut_ring, is_shut_ring):
                error = raised(work, DOOR, thing, None, *([None] if work is is_shut_ring else []))
                self.assertIsInstance(error, NoEntryName)
                self.assertIs(error.entry, thing)
            for work in (helpers_of, idle_lots):
                self.assertIsInstance(raised(work, DOOR, thing), NoEntryName)
            if thing not in ([], ()):
                for work in (first_open, shut_ring, is_shut_ring):
                    error = raised(work, DOOR, "get", thing, *([None] if work is is_shut_ring else []))
                    self.assertIsInstance(error, BadNames)
                    self.assertEqual(error.index, 0)
        for names, index in ((["drop", "drop"], 1), (("look", "drop", "zz"), 2), (["look", None], 1),
                             (["look", ["drop"]], 1)):
            for work in (first_open, shut_ring):
                self.assertEqual(raised(work, DOOR, "get", names).index, index)
            self.assertEqual(raised(is_shut_ring, DOOR, "get", names, None).index, index)
        self.assertEqual(first_open(DOOR, "get", ["look", "get"]), [])
        self.assertEqual(raised(shut_ring, DOOR, "get", ["look", "get"]).index, 1)
        self.assertEqual(raised(is_shut_ring, DOOR, "get", ["get"], None).index, 0)


class RingTest(unittest.TestCase):

    def test_example(self):
        self.assertEqual(helpers_of(DOOR, "get"), [("drop",)])
        self.assertEqual(idle_lots(entry="get", thing=DOOR), [("look",)])
        self.assertEqual(shut_ring(DOOR, "get", ["look"]), (["get"], ["look"]))
        self.assertIsNone(shut_ring(DOOR, "get", ("drop",)))
        self.assertEqual(shut_ring(names=[], entry="get", thing=DOOR), (["get"], ["look"]))

    def test_never_shut_and_never_open(self):
        still = Thing(["x", "y"], "x", {"do": {"x": "x", "y": "y"}}, {"go": {}, "on": {"x": "y", "y": "x"}})
        self.assertEqual([helpers_of(still, "on"), idle_lots(still, "on")], [[()], []])
        self.assertEqual([helpers_of(still, "go"), idle_lots(still, "go")], [[], [("do", "on")]])
        self.assertIsNone(shut_ring(still, "on", []))

    def test_is_shut_ring(self):
        good = (["get"], ["look"])
        self.assertTrue(is_shut_ring(DOOR, "get", ["look"], good))
        self.assertTrue(is_shut_ring(DOOR, "get", ["look"], [("look", "get", "drop", "get"), ("look", "look")]))
        self.assertTrue(is_shut_ring(pair=good, names=(), entry="get", thing=DOOR))
        for pair in any_objects() + [([], ["look"]), (["get"], []), (["get"], ["drop"]), (["get"], ["look", "get"]),
                                     (["get", "get"], ["look"]), (["get"], ["look"], []), (["get"], ["zz"]),
                                     (["get"], "look"), ("get", ["look"]), ([["get"]], ["look"]),
                                     (["get"], [["look"]]), (["get"], ["drop", "get"]), {"get": 0, "look": 1}]:
            self.assertIs(is_shut_ring(DOOR, "get", [], pair), False)
        both = Thing(["x", "y"], "x", {"do": {"x": "y", "y": "x"}, "be": {"x": "x", "y": "x"}}, {"go": {}})
        self.assertFalse(is_shut_ring(both, "go", ["be", "do"], ([], ["do", "do"])))
        self.assertTrue(is_shut_ring(both, "go", ["be", "do"], ([], ["do", "be"])))
        self.assertFalse(is_shut_ring(both, "go", ["be", "do"], ([], ["do", "be", "do"])))

    def test_by_trying_out(self):
        many = 0
        for seed in range(80):
            thing = made_up_thing(seed, deeds=3)
            for entry in thing.entries():
                names = [name for name in names_of(thing) if name != entry]
                ringed = [lot for lot in lots_of(names) if has_ring(thing, entry, lot)]
                for lot in lots_of(names):
                    pair = shut_ring(thing, entry, list(lot))
                    self.assertEqual(pair is not None, lot in ringed)
                    if pair is not None:
                        self.assertEqual([list, list], [type(row) for row in pair])
                        self.assertTrue(is_shut_ring(thing, entry, lot, pair))
                        self.check_ring(thing, entry, lot, pair)
                greatest = [lot for lot in ringed if not any(set(lot) < set(more) for more in ringed)]
                self.assertEqual(idle_lots(thing, entry), greatest)
                helping = [lot for lot in lots_of(names) if lot not in ringed]
                self.assertEqual(helpers_of(thing, entry),
                                 [lot for lot in helping if not any(set(less) < set(lot) for less in helping)])
                many += len(greatest) > 1
        self.assertGreater(many, 3)

    def check_ring(self, thing, entry, lot, pair):
        ahead, ring = pair
        home = value_behind(thing, thing.start(), ahead)
        self.assertLessEqual(set(lot), set(ring))
        self.assertEqual(value_behind(thing, home, ring), home)
        for at in range(len(ring)):
            self.assertNotIn(value_behind(thing, home, ring[:at]), list(thing.entries()[entry]) + [None])

    def test_told_anew(self):
        told = shut_ring(DOOR, "get", [])
        told[1].append("x")
        idle_lots(DOOR, "get").clear()
        self.assertEqual(shut_ring(DOOR, "get", []), (["get"], ["look"]))
        self.assertEqual(shut_ring(DOOR, "get", []), shut_ring(Thing(
            ("free", "held"), "free", DOOR.deeds(), DOOR.entries()), "get", ()))


if __name__ == "__main__":
    unittest.main()
