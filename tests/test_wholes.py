"""Point 15: whole orders, but for exchanges."""

import unittest

from meettasks.errors import Endless
from meettasks.programs import Program
from meettasks.standing import stand_of
from meettasks.touching import asked, least_one, written
from meettasks.wholes import how_many, one_of_each, unlike_ends
from tests.makers import LOCK, example_19, example_19_notes, markets, nest, servers, small_programs
from tests.objects import raised
from tests.plain import distances_from, reached_from, world_of

BEGIN = ("main", "begin")


def whole_orders(world, most):
    """All pairs (whole order, stand), None if there are more than most."""
    found = []
    coming = [([], 0)]
    while coming:
        order, at = coming.pop()
        if not world.goes[at]:
            found.append((order, at))
        if len(found) + len(coming) > most:
            return None
        coming.extend([(order + [step], target) for step, target in world.goes[at]])
    return found


def comes_back(world):
    return any(at == target for at in range(len(world.runs)) for one in reached_from(world, at)
               for _, target in world.goes[one])


def first_return(world, most):
    """The first order that comes back to a stand, None if most ways do not tell."""
    level = [([], [0])]
    while level and len(level) < most:
        further = []
        for order, way in level:
            for step, target in sorted(world.goes[way[-1]]):
                if target in way:
                    return order + [step]
                further.append((order + [step], way + [target]))
        level = further
    return None


class WholesTest(unittest.TestCase):

    def test_examples(self):
        program = example_19()
        self.assertEqual(how_many(program), 4)
        found = one_of_each(program)
        self.assertEqual(found, sorted(found))
        second = (BEGIN, ("a", "call"), ("c", "take"), ("b", "call"), ("c", "take"), ("main", "closes"))
        self.assertEqual(found[1], second)
        self.assertEqual(len(whole_orders(world_of(program), 100)), 4)
        self.assertIsNone(unlike_ends(program))
        program = example_19_notes()
        self.assertEqual(len(whole_orders(world_of(program), 100)), 3)
        self.assertEqual(how_many(program), 1)
        self.assertEqual(one_of_each(program=program),
                         [(BEGIN, ("a", "note"), ("a", "note"), ("b", "note"), ("main", "closes"))])

    def test_unlike_ends(self):
        program = Program(nest({"a": [("use", "t", "give")], "b": [("wait", "t", "have")],
                                "c": [("wait", "t", "have")]}), {"t": LOCK})
        found = unlike_ends(program)
        self.assertIsInstance(found, tuple)
        self.assertLess(found[0], found[1])
        self.assertNotEqual(stand_of(program, found[0]), stand_of(program, found[1]))
        self.assertEqual(found[0], one_of_each(program)[0])
        self.assertIsNone(unlike_ends(Program([])))
        self.assertEqual([how_many(Program([])), one_of_each(Program([]))], [1, [()]])

    def test_by_trying_out(self):
        many = 0
        for program in small_programs(60, range(2000, 3500), 60):
            world = world_of(program)
            if comes_back(world):
                self.check_endless(program, world)
                continue
            whole = whole_orders(world, 250)
            if whole is not None:
                many += 1
                self.check_wholes(program, whole)
                self.check_one_end(program, world, whole)
        self.assertGreater(many, 30)

    def check_wholes(self, program, whole):
        left = {tuple(order): at for order, at in whole}
        ends = {}
        while left:
            order = next(iter(left))
            ends[min(distances_from(program, list(order)))] = left[order]
            for other in distances_from(program, list(order)):
                del left[other]
        least = sorted(ends)
        self.assertEqual(how_many(program), len(least))
        self.assertEqual(one_of_each(program), least)
        pairs = [(one, other) for one in least for other in least if ends[one] != ends[other]]
        self.assertEqual(unlike_ends(program), min(pairs) if pairs else None)
        for order in least:
            self.assertEqual(least_one(program, order), list(order))

    def check_one_end(self, program, world, whole):
        # All lead to one stand just if, from where two steps that touch lead, one stand can be come to.
        joined = True
        for at in range(len(world.runs)):
            for one, there in world.goes[at]:
                for other, here in world.goes[at]:
                    lots = reached_from(world, there) & reached_from(world, here)
                    if one < other and not lots:
                        self.assertTrue(self.touch_here(program, world.first(at), one, other))
                        joined = False
        self.assertEqual(joined, len({at for _, at in whole}) == 1)

    def touch_here(self, program, ahead, one, other):
        first, second = [(set(written(program, ahead + [step])), set(asked(program, ahead + [step])))
                         for step in (one, other)]
        return bool(first[0] & (second[0] | second[1]) or first[1] & second[0])

    def check_endless(self, program, world):
        want = first_return(world, 20000)
        for work in (how_many, one_of_each, unlike_ends):
            error = raised(work, program)
            self.assertIsInstance(error, Endless)
            if want is not None:
                self.assertEqual(error.order, want)

    def test_endless(self):
        many = 0
        for seed in range(30):
            for program in (servers(seed), markets(seed)):
                world = world_of(program)
                if comes_back(world) and len(world.runs) < 150:
                    many += 1
                    self.check_endless(program, world)
        self.assertGreater(many, 30)
        error = raised(how_many, Program([("again", [("note", "x")])]))
        self.assertEqual(error.order, [("main", "note")])
        error = raised(one_of_each, Program(nest({"b": [("note", "y"), ("again", [("note", "x")])],
                                                  "a": [("again", [("pick", [[("note", "x")], [("note", "y")]])])]})))
        self.assertEqual(error.order, [BEGIN, ("a", "pick", 0), ("a", "note")])

    def test_many_whole_orders_that_are_one(self):
        program = Program(nest({name: [("note", "x")] for name in "abcdefg"}))
        self.assertEqual(how_many(program), 1)
        self.assertEqual(one_of_each(program), [(BEGIN,) + tuple((name, "note") for name in "abcdefg")
                                                + (("main", "closes"),)])

    def test_limits(self):
        calls = {name: [("call", "s", "e", [])] for name in "abcd"}
        calls["s"] = [("take", "e", [])] * 4
        program = Program(nest(calls))
        self.assertEqual(how_many(program), 336)
        self.assertEqual(len(one_of_each(program)), 336)
        self.assertIsNone(unlike_ends(program))


if __name__ == "__main__":
    unittest.main()
