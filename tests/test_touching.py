"""Points 13 and 14: what steps write and ask; orders that are one."""

import unittest

from meettasks.errors import BadOrder
from meettasks.programs import Program
from meettasks.runs import Run
from meettasks.standing import first_orders
from meettasks.touching import are_one, asked, exchanges, least_one, pair_against, written
from tests.makers import LOCK, example_19, nest, servers, small_programs, made_up
from tests.objects import any_objects, raised
from tests.plain import all_orders, distances_from, exchanged, marks_of, touch_at, touching_marks, world_of

BEGIN = ("main", "begin")


class WrittenTest(unittest.TestCase):

    def check(self, program, order, writes, asks):
        self.assertEqual(written(program, order), writes)
        self.assertEqual(asked(program, order), asks)

    def test_begin_and_close(self):
        program = Program(nest({"a": nest({"c": []}), "b": [("take", "e", [])]}))
        self.check(program, [BEGIN], [("end", "a"), ("end", "b"), ("task", "a"), ("task", "b"), ("task", "main")], [])
        self.check(program, [BEGIN, ("a", "begin")], [("end", "c"), ("task", "a"), ("task", "c")], [])
        self.check(program, [BEGIN, ("a", "begin"), ("a", "closes")], [("end", "a"), ("task", "a")], [("end", "c")])

    def test_begin_of_who_ends_at_once(self):
        program = Program(nest({"b": [], "a": [("take", "e", [])]}) + [("note", "x")])
        self.check(program, [BEGIN], [("end", "a"), ("end", "b"), ("task", "a"), ("task", "b"), ("task", "main")], [])

    def test_meetings(self):
        program = Program(nest({"a": [("call", "s", "e", []), ("note", "x")], "b": [("call", "s", "e", [])],
                                "s": [("take", "e", [("note", "y")]), ("note", "z")]}))
        order = [BEGIN, ("a", "call")]
        self.check(program, order, [("row", "s", "e"), ("task", "a")], [("end", "s")])
        order.append(("s", "take"))
        self.check(program, order, [("row", "s", "e"), ("task", "a"), ("task", "s")], [])
        self.check(program, order + [("s", "note")], [("task", "a"), ("task", "s")], [])
        order = order + [("b", "call"), ("s", "note"), ("s", "note")]
        self.check(program, order, [("end", "b"), ("end", "s"), ("row", "s", "e"), ("task", "b"), ("task", "s")], [])

    def test_who_ends_asks_its_rows(self):
        program = Program(nest({"s": [("note", "x"), ("if", "f", [("take", "e", [])], [])],
                                "a": [("call", "s", "e", [])]}))
        self.check(program, [BEGIN, ("s", "note")], [("end", "s"), ("task", "s")], [("row", "s", "e")])
        self.check(program, [BEGIN, ("s", "note"), ("a", "call")], [("end", "a"), ("task", "a")], [("end", "s")])

    def test_else(self):
        arms = [(None, "e", []), ("f", "g", []), (None, "h", [])]
        program = Program(nest({"s": [("offer", arms, ("else", [("note", "x")]))]}))
        self.check(program, [BEGIN, ("s", "else")], [("task", "s")], [("row", "s", "e"), ("row", "s", "h")])

    def test_things(self):
        wait = ("wait", "t", "have")
        program = Program(nest({"x": [wait, ("use", "t", "give")], "y": [wait, ("note", "z")]}), {"t": LOCK})
        self.check(program, [BEGIN, ("x", "wait")], [("task", "x"), ("value", "t")], [("row", "t", "have")])
        order = [BEGIN, ("x", "wait"), ("y", "wait")]
        self.check(program, order, [("row", "t", "have"), ("task", "y"), ("value", "t")], [])
        self.check(program, order + [("x", "use")],
                   [("end", "x"), ("row", "t", "have"), ("task", "x"), ("task", "y"), ("value", "t")], [])

    def test_abort(self):
        tasks = {"a": nest({"c": [("note", "x")]}, [("call", "s", "e", [])]), "s": [("take", "e", [("note", "y")])],
                 "z": [("abort", "a"), ("note", "w")]}
        program = Program(nest(tasks))
        self.check(program, [BEGIN, ("z", "abort")], [("end", "a"), ("task", "a"), ("task", "z")], [("end", "c")])
        order = [BEGIN, ("a", "begin"), ("a", "call"), ("s", "take"), ("z", "abort")]
        self.check(program, order,
                   [("end", "a"), ("end", "c"), ("task", "a"), ("task", "c"), ("task", "s"), ("task", "z")], [])
        again = Program(nest({"a": nest({"c": []}), "z": [("abort", "a"), ("abort", "a"), ("note", "x")]}))
        self.check(again, [BEGIN, ("z", "abort"), ("z", "abort")], [("task", "z")], [("end", "a"), ("end", "c")])

    def test_ends(self):
        program = Program(nest({"a": [("offer", [(None, "e", [])], ("end",))], "b": nest({"c": []})}))
        order = [BEGIN, ("b", "begin"), ("main", "ends")]
        self.check(program, order, [("end", "a"), ("task", "a"), ("task", "main")],
                   [("end", "b"), ("end", "c"), ("row", "a", "e"), ("task", "b"), ("task", "c")])

    def test_bad_orders(self):
        program = example_19()
        for work in (written, asked):
            for order in any_objects():
                error = raised(work, program, order)
                self.assertIsInstance(error, BadOrder)
                self.assertEqual(error.index, 0)
            error = raised(work, program, [BEGIN, ("a", "call"), ("a", "call")])
            self.assertEqual(error.index, 2)
            self.assertEqual(work(order=(["main", "begin"], ["a", "call"]), program=program),
                             work(program, [BEGIN, ("a", "call")]))

    def test_steps_that_do_not_touch_go_either_way(self):
        programs = small_programs(25, range(500), 40) + [servers(seed) for seed in range(4)]
        for program in programs:
            world = world_of(program)
            for at in range(min(40, len(world.runs))):
                self.check_pairs(program, world, at)

    def check_pairs(self, program, world, at):
        ahead = world.first(at)
        for one, there in world.goes[at]:
            for other, behind in world.goes[there]:
                if one[0] != other[0] and not touch_at(program, ahead, one, other):
                    # The second one could be done first; both ways lead to one stand, and nothing else is asked.
                    ways = dict(world.goes[at])
                    self.assertIn(other, ways)
                    self.assertEqual(dict(world.goes[ways[other]])[one], behind)
                    for work in (written, asked):
                        self.assertEqual(work(program, ahead + [other]), work(program, ahead + [one, other]))
                        self.assertEqual(work(program, ahead + [one]), work(program, ahead + [other, one]))
        for one, there in world.goes[at]:
            for other, _ in world.goes[at]:
                if one < other and other not in dict(world.goes[there]):
                    lots = [set(written(program, ahead + [step])) for step in (one, other)]
                    asks = [set(asked(program, ahead + [step])) for step in (one, other)]
                    self.assertTrue(lots[0] & (lots[1] | asks[1]) or asks[0] & lots[1])


class OneTest(unittest.TestCase):

    def test_example(self):
        program = Program(nest({"a": [("note", "x"), ("note", "y")], "b": [("note", "z")]}))
        a, b, end = ("a", "note"), ("b", "note"), ("main", "closes")
        one, other = [BEGIN, b, a, a, end], [BEGIN, a, a, b, end]
        self.assertTrue(are_one(program, one, other))
        self.assertEqual(exchanges(program, one, other), [1, 2])
        self.assertEqual(least_one(program, one), other)
        self.assertIsNone(pair_against(program, one, other))
        self.assertFalse(are_one(program, one, one[:4]))
        self.assertEqual(pair_against(program, one, one[:4]), (("main", 1), ("main", 1)))
        self.assertIsNone(exchanges(program, one, one[:4]))

    def test_pairs_against(self):
        program = example_19()
        one = [BEGIN, ("a", "call"), ("b", "call"), ("c", "take")]
        other = [BEGIN, ("b", "call"), ("a", "call"), ("c", "take")]
        self.assertEqual(pair_against(program, one, other), (("a", 0), ("b", 0)))
        self.assertEqual(pair_against(program, other, one), (("b", 0), ("a", 0)))
        self.assertEqual(pair_against(program, one, [BEGIN, ("a", "call")]), (("b", 0), ("b", 0)))
        picks = Program(nest({"a": [("pick", [[], []])], "b": [("note", "x")]}))
        self.assertEqual(pair_against(picks, [BEGIN, ("a", "pick", 0), ("b", "note")],
                                      [BEGIN, ("b", "note"), ("a", "pick", 1)]), (("a", 0), ("a", 0)))

    def test_bad_orders(self):
        program = example_19()
        good = [BEGIN]
        for work in (are_one, exchanges, pair_against):
            for thing in any_objects():
                if thing not in ([], ()):
                    self.assertEqual(raised(work, program, thing, good).index, 0)
                    self.assertEqual(raised(work, program, good, thing).index, 0)
            # The earlier parameter's comes first.
            self.assertEqual(raised(work, program, [BEGIN, ("a", "take")], [None]).index, 1)
            self.assertIsInstance(raised(work, program, good, [BEGIN, BEGIN]), BadOrder)
        for thing in any_objects():
            if thing not in ([], ()):
                self.assertIsInstance(raised(least_one, program, thing), BadOrder)
        self.assertEqual(least_one(program, ()), [])
        self.assertEqual(exchanges(program, [], ()), [])
        self.assertTrue(are_one(other=[["main", "begin"]], one=(BEGIN,), program=program))

    def test_by_trying_out(self):
        for program in small_programs(14, range(1500, 2100), 40):
            orders = all_orders(program, 5, 2500)
            if orders is None:
                continue
            for long in (3, 5):
                same = [order for order in orders if len(order) == long][:24]
                for order in same[:4]:
                    distances = distances_from(program, order)
                    self.assertEqual(least_one(program, order), list(min(distances)))
                    self.check_least(program, order)
                    for other in same:
                        self.check_both(program, order, other, distances)

    def check_least(self, program, order):
        # It is the least just if no step is less than one ahead of it that it could pass.
        touching = touching_marks(program, order)
        passes = [(one, two) for two in range(len(order)) for one in range(two)
                  if order[two] < order[one] and not any((between, two) in touching for between in range(one, two))]
        self.assertEqual(least_one(program, order) == order, not passes)

    def check_both(self, program, one, other, distances):
        are = tuple(other) in distances
        self.assertIs(are_one(program, one, other), are)
        way = exchanges(program, one, other)
        pair = pair_against(program, one, other)
        self.assertEqual((way is None, pair is None), (not are, are))
        if are:
            self.assertEqual(len(way), distances[tuple(other)])
            here, there = marks_of(one), marks_of(other)
            turned = [(a, b) for a in here for b in here
                      if here.index(a) < here.index(b) and there.index(a) > there.index(b)]
            self.assertEqual(len(way), len(turned))
            order = list(one)
            for at in way:
                order = exchanged(program, order)[at]
            self.assertEqual(order, list(other))
        else:
            self.check_pair(program, one, other, pair)

    def check_pair(self, program, one, other, pair):
        here, there = marks_of(one), marks_of(other)
        steps, others = dict(zip(here, one)), dict(zip(there, other))
        unlike = [mark for mark in sorted(set(here) | set(there)) if steps.get(mark) != others.get(mark)]
        if unlike:
            self.assertEqual(pair, (unlike[0], unlike[0]))
        else:
            self.assertEqual(pair, min((here[a], here[b]) for a, b in touching_marks(program, one)
                                       if there.index(here[a]) > there.index(here[b])))

    def test_whatever_the_number_of_stands(self):
        tasks = {name: [("note", "x")] * 9 for name in "abcdef"}
        program = Program(nest(tasks))
        turns = [BEGIN] + [(name, "note") for _ in range(9) for name in "fedcba"]
        rows = [BEGIN] + [(name, "note") for name in "abcdef" for _ in range(9)]
        self.assertEqual(least_one(program, turns), rows)
        way = exchanges(program, turns, rows)
        for at in way:
            turns[at], turns[at + 1] = turns[at + 1], turns[at]
        self.assertEqual(turns, rows)
        self.assertEqual(Run(program, turns).steps(), rows)

    def test_long_orders_that_were_told(self):
        program = made_up(5, many=4, most=4)
        order = first_orders(program)[-1]
        self.assertTrue(are_one(program, order, least_one(program, order)))


if __name__ == "__main__":
    unittest.main()
