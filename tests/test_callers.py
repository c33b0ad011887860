"""Points 53 and 54: callers, whether they might be left, who can be told apart."""

import random
import unittest
from itertools import combinations, product

from meettasks.callers import Caller, is_safe, left_row
from meettasks.errors import BadStates, NoEntry, Restless, UnlikeEntries
from meettasks.likecallers import caller_apart, can_stand_for, may_part, must_part, worse_pair
from meettasks.outside import can_be, can_be_left, entries_of
from tests.objects import any_objects, raised
from tests.outworlds import X, Y, calm_servers, example_57_one, example_57_other, of_body

TAKE, NOTE = ("take", "x", []), ("note", "n")


def made_up_caller(luck, entries, many=3):
    states = [({entry: luck.randrange(many) for entry in entries if luck.random() < 0.5}, luck.random() < 0.5)
              for _ in range(many)]
    return Caller(states)


def own_rows(states, longest):
    """All rows of a caller of at most so many entries with the states they lead to, in the order of choices."""
    level = [((), 0)]
    for _ in range(longest + 1):
        yield from level
        level = sorted((row + (entry,), target) for row, state in level
                       for entry, target in states[state][0].items())


def left_by_rows(servers, caller, longest=4):
    for row, state in own_rows(caller.states(), longest):
        steps, minds = caller.states()[state]
        if minds and can_be_left(servers, row, sorted(steps)):
            return list(row)
    return None


def alike_servers(seeds):
    """Servers of these seeds by their entries, for pairs with the same ones."""
    found = {}
    for seed in seeds:
        servers = calm_servers(seed)
        found.setdefault(tuple(entries_of(servers)), []).append(servers)
    return [pair for group in found.values() for pair in combinations(group[:8], 2)]


def lots_of(entries):
    return [lot for many in range(len(entries) + 1) for lot in combinations(entries, many)]


def all_rows(entries, longest):
    return [row for many in range(longest + 1) for row in product(entries, repeat=many)]


class CallerTest(unittest.TestCase):

    def test_ordinary(self):
        caller = Caller(states=[[{Y: 1, X: 0}, True], ({}, False)])
        self.assertEqual(caller.states(), [({X: 0, Y: 1}, True), ({}, False)])
        self.assertEqual([list(caller.states()[0][0]), type(caller.states()[0])], [[X, Y], tuple])
        caller.states()[0][0].clear()
        caller.states().clear()
        self.assertEqual(caller, Caller((({X: 0, Y: 1}, True), ({}, False))))
        self.assertNotEqual(caller, Caller([({X: 0, Y: 1}, False), ({}, False)]))
        self.assertNotEqual(caller, Caller([({X: 0, Y: 0}, True), ({}, False)]))
        for thing in any_objects() + [caller.states()]:
            self.assertFalse(caller == thing)
        steps = {X: 0}
        kept = Caller([(steps, True)])
        steps[Y] = 0
        self.assertEqual(kept.states(), [({X: 0}, True)])

    def test_errors(self):
        for thing in any_objects():
            error = raised(Caller, thing)
            self.assertIsInstance(error, BadStates)
            self.assertEqual(error.index, 0)
        good = ({X: 0}, True)
        for state in any_objects() + [({X: 1}, 1), ({X: 2}, True), ({X: -1}, True), ({X: True}, True), ({X: "0"}, True),
                                      ({"s": 0}, True), ({("s",): 0}, True), ({("s", "X"): 0}, True), ({("S", "x"): 0}, True), ({X: 0},),
                                      ({("s", "x", "y"): 0}, True), ({("s", 1): 0}, True), ({X: 0}, True, 0),
                                      ([(X, 0)], True), ({X: None}, False), (True, {X: 0}), ({X: 0, Y: 2}, False)]:
            error = raised(Caller, [good, state])
            self.assertIsInstance(error, BadStates)
            self.assertEqual(error.index, 1)
        self.assertEqual(raised(Caller, [({X: 3}, True), good, None]).index, 0)
        self.assertIsNone(raised(Caller, [({("t", "z"): 0}, False)]))

    def test_left_row(self):
        one, other = example_57_one(), example_57_other()
        impatient = Caller([({X: 1}, True), ({}, False)])
        self.assertIsNone(left_row(one, impatient))
        self.assertEqual(left_row(caller=impatient, servers=other), [])
        self.assertIsNone(left_row(other, Caller([({X: 0, Y: 0}, True)])))
        self.assertEqual(left_row(other, Caller([({X: 0, Y: 1}, True), ({X: 1}, True)])), [Y])
        # Without keys it is left once it comes there, if it minds.
        self.assertEqual(left_row(one, Caller([({X: 1}, True), ({}, True)])), [X])
        self.assertEqual(left_row(one, Caller([({}, True)])), [])
        self.assertIsNone(left_row(one, Caller([({}, False), ({}, True)])))
        # A row that cannot be done leads nowhere.
        turns = of_body(TAKE, ("take", "y", []))
        self.assertIsNone(left_row(turns, Caller([({Y: 1}, False), ({}, True)])))
        self.assertEqual(left_row(turns, Caller([({X: 1}, False), ({Y: 2}, True), ({}, True)])), [X, Y])

    def test_left_by_rows(self):
        left = [0, 0]
        for seed in range(60):
            servers, luck = calm_servers(seed), random.Random(seed)
            for _ in range(6):
                caller = made_up_caller(luck, entries_of(servers))
                found, told = left_by_rows(servers, caller), left_row(servers, caller)
                if found is not None:
                    self.assertEqual(told, found)
                else:
                    self.assertTrue(told is None or len(told) > 4)
                left[found is None] += 1
                minding = Caller([(steps, True) for steps, _ in caller.states()])
                self.assertEqual(is_safe(servers, caller), left_row(servers, minding) is None)
        self.assertGreater(min(left), 40)

    def test_no_entry(self):
        servers = example_57_one()
        caller = Caller([({X: 0}, True), ({("t", "a"): 0, ("s", "z"): 1, Y: 0}, True), ({("a", "a"): 0}, True)])
        for work in (left_row, is_safe):
            error = raised(work, servers, caller)
            self.assertIsInstance(error, NoEntry)
            self.assertEqual((error.owner, error.entry), ("s", "z"))
            self.assertIsInstance(raised(work, of_body(NOTE), caller), Restless)


class ApartTest(unittest.TestCase):

    def test_example(self):
        one, other = example_57_one(), example_57_other()
        self.assertIsNone(may_part(one, other))
        self.assertEqual(must_part(one, other), ((), (X,)))
        self.assertEqual(must_part(other=one, one=other), ((), (X,)))
        self.assertEqual(caller_apart(one, other), Caller([({X: 1}, True), ({}, False)]))
        self.assertEqual([can_stand_for(one, other), can_stand_for(elder=one, newer=other)], [True, False])
        self.assertEqual([worse_pair(one, other), worse_pair(other, one)], [None, ((), (X,))])
        self.assertEqual([must_part(one, one), caller_apart(one, one), worse_pair(one, one)], [None] * 3)

    def test_rows_apart(self):
        one, other = of_body(TAKE, ("take", "y", [])), of_body(TAKE, TAKE, ("take", "y", []))
        self.assertEqual(may_part(one, other), [X, X])
        self.assertEqual(may_part(other=one, one=other), [X, X])
        self.assertEqual(must_part(one, other), ((X,), (X,)))
        self.assertEqual(caller_apart(one, other), Caller([({X: 1}, False), ({X: 2}, True), ({}, False)]))
        self.assertEqual([worse_pair(one, other), worse_pair(other, one)], [((X,), (X,)), ((X,), (Y,))])
        # What just one can do at all, it alone can be left with nothing behind.
        free = of_body(("offer", [(None, "x", []), (None, "y", [])], None))
        shut = of_body(("offer", [(None, "x", []), ("f", "y", [])], None))
        self.assertEqual([may_part(free, shut), must_part(free, shut)], [[Y], ((), (Y,))])
        picky = of_body(("pick", [[TAKE], [TAKE, ("offer", [("f", "y", [])], None)]]))
        self.assertEqual(must_part(picky, of_body(("offer", [(None, "x", []), ("f", "y", [])], None))),
                         ((X,), (X,)))

    def test_an_empty_lot(self):
        # Both can be left with all at once; one alone can go on by x: then with nothing to wait for.
        shut = ("offer", [("f", "x", []), ("f", "y", [])], None)
        one, other = of_body(("pick", [[shut], [TAKE]])), of_body(shut)
        self.assertEqual([may_part(one, other), must_part(one, other)], [[X], ((X,), ())])
        self.assertEqual(caller_apart(one, other), Caller([({X: 1}, False), ({}, True)]))
        self.assertEqual([worse_pair(one, other), worse_pair(other, one)], [((X,), ()), None])
        self.assertEqual(left_row(one, caller_apart(one, other)), [X])
        self.assertIsNone(left_row(other, caller_apart(one, other)))

    def test_by_rows(self):
        apart, worse, empty = 0, 0, 0
        for one, other in alike_servers(range(120)):
            entries = entries_of(one)
            rows = all_rows(entries, 3)
            may = [list(row) for row in rows if can_be(one, row) != can_be(other, row)]
            told = may_part(one, other)
            self.assertEqual(told, may[0] if may else None if told is None or len(told) <= 3 else told)
            pairs = [(row, lot) for row in rows for lot in lots_of(entries)
                     if can_be_left(one, row, lot) != can_be_left(other, row, lot)]
            told = must_part(one, other)
            self.assertEqual(told, pairs[0] if pairs else None if told is None or len(told[0]) <= 3 else told)
            self.check_caller(one, other, told)
            for newer, elder in ((one, other), (other, one)):
                pairs = [(row, lot) for row in rows for lot in lots_of(entries)
                         if can_be_left(newer, row, lot) and not can_be_left(elder, row, lot)]
                told = worse_pair(newer, elder)
                self.assertEqual(told, pairs[0] if pairs else None if told is None or len(told[0]) <= 3 else told)
                self.assertEqual(can_stand_for(newer, elder), told is None)
                worse += told is None
                empty += told is not None and told[1] == ()
            apart += may == [] and bool(pairs)
        self.assertGreater(apart, 1)
        self.assertGreater(worse, 3)
        self.assertGreater(empty, 3)

    def check_caller(self, one, other, told):
        caller = caller_apart(one, other)
        self.assertEqual(caller is None, told is None)
        if caller is not None:
            row, lot = told
            states = [({entry: at + 1}, False) for at, entry in enumerate(row)]
            states += [({entry: len(row) + 1 for entry in lot}, True)] + ([({}, False)] if lot else [])
            self.assertEqual(caller.states(), states)
            self.assertNotEqual(left_row(one, caller) is None, left_row(other, caller) is None)

    def test_all_hangs_on_left_lots(self):
        for one, other in alike_servers(range(60))[:40]:
            luck = random.Random(1)
            if must_part(one, other) is None:
                self.assertIsNone(may_part(one, other))
                self.assertTrue(can_stand_for(one, other) and can_stand_for(other, one))
            for _ in range(10):
                caller = made_up_caller(luck, entries_of(one))
                if can_stand_for(one, other) and left_row(one, caller) is not None:
                    self.assertIsNotNone(left_row(other, caller))

    def test_errors(self):
        restless = of_body(NOTE, a=[TAKE])
        later = of_body(TAKE, a=[NOTE])
        for work in (may_part, must_part, caller_apart, can_stand_for, worse_pair):
            self.assertIsInstance(raised(work, example_57_one(), of_body(TAKE)), UnlikeEntries)
            error = raised(work, restless, later)
            self.assertIsInstance(error, Restless)
            self.assertEqual(error.task, "s")
            error = raised(work, later, restless)
            self.assertEqual((type(error), error.task), (Restless, "a"))
            self.assertIsInstance(raised(work, example_57_one(), restless), Restless)


if __name__ == "__main__":
    unittest.main()
