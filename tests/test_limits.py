"""Points 11, 19, 26, 33: inputs at the limits, all questions of them."""

import unittest

from meettasks.endings import bars
from meettasks.errors import NotClosing
from meettasks.harming import harmed, harms, is_harm
from meettasks.helping import are_helpers, helpers
from meettasks.knots import greatest_knot
from meettasks.lassos import is_wait, waits_for_ever
from meettasks.moreends import fewest_ends, with_ends
from meettasks.passing import are_bounds, most_passed, passing_run
from meettasks.programs import Program
from meettasks.runs import Run
from meettasks.standing import first_at, first_orders, order_without, stand_of, steps_at
from meettasks.strikes import StruckRun, struck_values, value_bars
from meettasks.stretches import crossing
from meettasks.things import Thing
from meettasks.touching import are_one, exchanges, least_one
from meettasks.unending import are_end_helpers, end_helpers, is_unending, never_ends
from meettasks.unfolding import events_for, is_configuration, stand_by, unfolded
from meettasks.waits import first_stuck, stuck
from tests.makers import count_stands, made_up, markets, nest, servers
from tests.objects import raised

KINDS = ("any", "weak", "strong")


class AllOrdersTest(unittest.TestCase):

    def test_three_hundred_stands(self):
        program = made_up(5, many=4, most=4)
        many = count_stands(program, 300)
        self.assertEqual(many, 299)
        orders = first_orders(program)
        self.assertEqual([stand_of(program, order) for order in orders], list(range(many)))
        self.assertEqual(sum(len(steps_at(program, at)) for at in range(many)),
                         sum(len(Run(program, order).let()) for order in orders))
        events = unfolded(program)
        for at in range(0, many, 7):
            lot = events_for(program, at)
            self.assertTrue(is_configuration(program, lot))
            self.assertEqual(stand_by(program, lot), at)
        self.assertEqual(len({event[0] for event in events}),
                         len({step for at in range(many) for step, _ in steps_at(program, at)}))

    def test_three_hundred_events(self):
        program = markets(14)
        self.assertEqual([count_stands(program, 300), len(unfolded(program))], [273, 249])

    def test_sixty_steps(self):
        program = Program(nest({name: [("note", name)] * 29 for name in "ab"}))
        begin = [("main", "begin")]
        one = begin + [("b", "note"), ("a", "note")] * 29 + [("main", "closes")]
        other = begin + [("a", "note")] * 29 + [("b", "note")] * 29 + [("main", "closes")]
        self.assertEqual(least_one(program, one), other)
        self.assertTrue(are_one(program, one, other))
        self.assertEqual(len(exchanges(program, one, other)), sum(range(1, 30)))
        self.assertIsNone(crossing(program, ("a", (0,), 29)))
        self.assertEqual(order_without(program, ("a", (28,)), ("b", (28,))), begin + [("b", "note")] * 29)
        self.assertEqual(len(first_at(program, {"a": "ended", "b": "ended"})), 59)

    def test_eight_tasks_three_things(self):
        values = ["a", "b", "c", "d", "e", "f"]
        turn = {value: values[(at + 1) % 6] for at, value in enumerate(values)}
        thing = Thing(values, "a", {name: turn for name in "klmn"}, {name: {"f": "a"} for name in "wxyz"})
        tasks = {name: [("use", "one", "k"), ("wait", "two", "w"), ("use", "three", "n")] for name in "abcdefg"}
        program = Program(nest(tasks), {"one": thing, "two": thing, "three": thing})
        run = Run(program, [("main", "begin")] + [(name, kind) for name in "abcdefg" for kind in ("use", "wait")])
        self.assertEqual([run.value("one"), run.row("two", "w")], ["b", list("abcdefg")])


class ForEverTest(unittest.TestCase):

    def test_six_tasks(self):
        for program in (markets(5), servers(50), servers(335)):
            self.assertEqual(len(program.tasks()), 6)
            self.assertLessEqual(120, count_stands(program, 150))
            run = Run(program, first_orders(program)[-1])
            self.assertLessEqual(set(greatest_knot(run)), set(stuck(run)))
            for task in program.tasks():
                self.check_waits(program, task)
                most = most_passed(program, task)
                for many in (1, 20):
                    found = passing_run(program, task, many)
                    if most is not None and most < many or most is None:
                        self.assertEqual(found is None, most is not None)
                if most is not None and first_stuck(program, task) is None:
                    self.assertFalse(are_bounds(program, task, None))
            for kind in KINDS:
                found, rows = never_ends(program, kind), end_helpers(program, kind)
                self.assertEqual(found is None, rows is not None)
                self.assertTrue(is_unending(program, kind, found) if found else are_end_helpers(program, kind, rows))

    def check_waits(self, program, task):
        for kind in KINDS:
            found, rows = waits_for_ever(program, task, kind), helpers(program, task, kind)
            self.assertEqual(found is None, rows is not None)
            if found is None:
                self.assertTrue(are_helpers(program, task, kind, rows))
            else:
                self.assertTrue(is_wait(program, task, kind, found))
                # What was told may be handed in again, put together, however long.
                self.assertTrue(is_wait(program, task, kind, (found[0] + found[1] * 30, found[1] * 30)))


class EndsTest(unittest.TestCase):

    def test_three_strikable_tasks(self):
        values = ["no", "yes"]
        thing = Thing(values, "yes", {"put": {"no": "yes", "yes": "yes"}, "cut": {"no": "no", "yes": "no"}},
                      {"get": {"yes": "no"}})
        tasks = {name: [("wait", "t", "get"), ("use", "t", "put")] for name in "xyz"}
        program = Program(nest(tasks), {"t": thing})
        strikable = ["z", "x", "y"]
        found = harms(program, strikable, "z", "weak")
        for kind in KINDS:
            for lot in harms(program, strikable, "z", kind):
                pair = harmed(program, strikable, "z", kind, lot)
                self.assertTrue(is_harm(program, strikable, "z", kind, lot, pair))
                self.assertEqual(StruckRun(program, strikable, pair[0]).how("z"), "waiting")
        self.assertEqual(found, [("x",), ("y",)])
        self.assertEqual([value for value, _ in struck_values(program, strikable, "t")], values)
        self.assertEqual(value_bars(program, strikable, "t", values), [("x", "y", "z")])

    def test_four_offers(self):
        offer = [("again", [("offer", [(None, "e", [])], None)])]
        program = Program(nest({name: offer for name in "abcd"}, [("call", "a", "e", [])]))
        offers = tuple((name, (0, 0, 0)) for name in "abcd")
        self.assertEqual(fewest_ends(program, "weak"), [offers])
        self.assertIsNone(never_ends(with_ends(program, offers), "any"))
        picks = Program([("pick", [nest({"a": offer, "b": offer}), []]), ("pick", [nest({"c": offer}), []])])
        self.assertEqual(fewest_ends(picks, "strong"), [offers[:3]])
        self.assertIsInstance(raised(bars, Run(picks), "main"), NotClosing)


if __name__ == "__main__":
    unittest.main()
