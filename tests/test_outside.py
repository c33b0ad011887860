"""Points 51 and 52: servers met from outside, rows, with what they can be left."""

import unittest
from itertools import combinations, product

from meettasks.errors import BadLot, BadRow, Restless
from meettasks.outside import can_be, can_be_left, entries_of, left_lots
from tests.objects import any_objects, raised
from tests.outworlds import X, Y, calm_servers, example_57_one, example_57_other, lots_left, of_body, stands_after

TAKE, NOTE = ("take", "x", []), ("note", "n")


def lots_of(entries):
    return [lot for many in range(len(entries) + 1) for lot in combinations(entries, many)]


class OutsideTest(unittest.TestCase):

    def test_example(self):
        one, other = example_57_one(), example_57_other()
        self.assertEqual(entries_of(servers=one), [X, Y])
        self.assertEqual([left_lots(one, []), left_lots(other, [])], [[()], [(X,), (Y,)]])
        self.assertEqual(left_lots(row=[X, list(Y)], servers=other), [(X,), (Y,)])
        self.assertTrue(can_be(one, [X, Y, X]))
        self.assertTrue(can_be_left(lot=(list(X),), row=(), servers=other))
        self.assertFalse(can_be_left(other, (), [X, Y]))
        self.assertFalse(can_be_left(one, (), [X]))
        self.assertTrue(can_be_left(one, (), []))

    def test_what_cannot_be(self):
        servers = of_body(TAKE, ("take", "y", [NOTE]))
        self.assertTrue(can_be(servers, [X, Y]))
        self.assertFalse(can_be(row=[Y], servers=servers))
        self.assertFalse(can_be(servers, [X, X]))
        self.assertEqual([left_lots(servers, [Y]), can_be_left(servers, [Y], [])], [[], False])
        self.assertEqual([left_lots(servers, [X]), left_lots(servers, [X, Y])], [[(X,)], [(Y,)]])

    def test_flags_and_own_steps(self):
        servers = of_body(("pick", [[("set", "f", True)], [("set", "f", False)]]), NOTE,
                          ("offer", [("f", "x", []), (None, "y", [NOTE])], None), v=[("take", "e", []), NOTE])
        entries = [X, Y, ("v", "e")]
        self.assertEqual(entries_of(servers), entries)
        self.assertEqual(left_lots(servers, []), [(X,)])
        self.assertTrue(can_be(servers, [X, ("v", "e"), Y, X]))

    def test_told_anew(self):
        servers = example_57_other()
        left_lots(servers, []).clear()
        entries_of(servers).clear()
        self.assertEqual([left_lots(servers, []), entries_of(servers)], [[(X,), (Y,)], [X, Y]])

    def test_by_stepping(self):
        several = 0
        for seed in range(100):
            servers = calm_servers(seed)
            entries = entries_of(servers)
            for row in [row for many in range(3) for row in product(entries, repeat=many)]:
                self.assertEqual(can_be(servers, row), bool(stands_after(servers, row)))
                told = left_lots(servers, row)
                self.assertEqual(told, lots_left(servers, row, entries))
                several += len(told) > 1
                for lot in lots_of(entries):
                    self.assertEqual(can_be_left(servers, row, lot), any(set(lot) <= set(one) for one in told))
                self.assertEqual(can_be_left(servers, row, []), can_be(servers, row))
        self.assertGreater(several, 10)

    def test_restless(self):
        inner = ("again", [NOTE, ("leave",)])
        for servers, task, path in (
                (of_body(NOTE), "s", (0,)), (of_body(TAKE, a=[NOTE]), "a", (0,)),
                (of_body(("pick", [[TAKE], [NOTE]])), "s", (0,)), (of_body(("if", "f", [TAKE], []), NOTE), "s", (0,)),
                (of_body(("again", [TAKE]), ("again", [NOTE])), "s", (0, 0, 1)),
                (of_body(TAKE, ("again", [("pick", [[TAKE], [("leave",)]]), NOTE])), None, None),
                (of_body(("again", [("pick", [[TAKE], [("leave",)]]), NOTE])), "s", (0,)),
                (of_body(("take", "x", [inner])), "s", (0, 0, 0, 0, 0)),
                (of_body(("take", "x", [NOTE, ("take", "y", [])])), "s", (0, 0, 0, 0, 1)),
                (of_body(("take", "x", [("pick", [[NOTE], [("take", "y", [])]])])), "s", (0, 0, 0, 0, 0, 1, 0)),
                (of_body(TAKE, ("offer", [(None, "x", []), (None, "y", [("offer", [(None, "x", [])], None)])], None)),
                 "s", (0, 0, 1, 1, 0)),
                (of_body(("take", "x", [("take", "y", [])]), a=[NOTE]), "a", (0,)),
                (of_body(("take", "x", [("take", "y", [])]), z=[NOTE]), "s", (0, 0, 0, 0, 0)),
                (of_body(TAKE, ("again", [("again", [("leave",), NOTE]), ("leave",)])), None, None),
                (of_body(("again", [TAKE])), None, None), (of_body(("again", [NOTE, TAKE])), None, None),
                (of_body(("again", [("again", [("pick", [[TAKE], [("leave",)]])]), TAKE])), None, None),
                (of_body(("again", [("again", [("leave",), TAKE]), NOTE]), TAKE), "s", (0, 0, 0))):
            for work, more in ((entries_of, ()), (can_be, (None,)), (can_be_left, (None, None)), (left_lots, (None,))):
                error = raised(work, servers, *more)
                if task is not None:
                    self.assertIsInstance(error, Restless)
                    self.assertEqual((error.task, error.path), (task, path))
                else:
                    self.assertNotIsInstance(error, Restless)

    def test_errors(self):
        servers = example_57_one()
        for thing in any_objects():
            for work, more in ((can_be, ()), (can_be_left, (None,)), (left_lots, ())):
                if thing not in ([], ()):
                    error = raised(work, servers, thing, *more)
                    self.assertIsInstance(error, BadRow)
                    self.assertEqual(error.index, 0)
                error = raised(work, servers, [X, thing], *more)
                self.assertIsInstance(error, BadRow)
                self.assertEqual(error.index, 1)
            if thing not in ([], ()):
                error = raised(can_be_left, servers, [Y], thing)
                self.assertIsInstance(error, BadLot)
                self.assertIs(error.thing, thing)
        for lot in ([Y, X], [X, X], [X, ("s", "z")], [X, None], X, {X: 1}, [("t", "cut")]):
            self.assertIsInstance(raised(can_be_left, servers, [], lot), BadLot)
        self.assertEqual(raised(can_be, servers, [X, X, ("s", "z"), None]).index, 2)


if __name__ == "__main__":
    unittest.main()
