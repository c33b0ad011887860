"""Points 55 and 56: least machines, callers that are never left."""

import random
import unittest
from itertools import product

from meettasks.callers import Caller, is_safe
from meettasks.errors import BadMachine, NoEntry, Restless
from meettasks.greatest import goes_along, greatest_caller
from meettasks.leastmachines import least_machine, lots_along
from meettasks.likecallers import must_part
from meettasks.outside import can_be, entries_of, left_lots
from tests.objects import any_objects, raised
from tests.outworlds import X, Y, calm_servers, example_57_one, example_57_other, of_body
from tests.test_callers import NOTE, TAKE, all_rows, alike_servers, lots_of, made_up_caller


def behaviour(servers, row, longest):
    """What left lots are behind all rows of at most so many entries put behind a row."""
    entries = entries_of(servers)
    return tuple(tuple(left_lots(servers, row + more)) for more in all_rows(entries, longest))


def machine_by_rows(servers, longest, deep):
    """The least machine by rows of at most so many entries, told apart by rows of at most deep ones."""
    entries = entries_of(servers)
    rows = [row for row in all_rows(entries, longest) if can_be(servers, row)]
    firsts = {}
    for row in rows:
        firsts.setdefault(behaviour(servers, row, deep), row)
    numbers = {key: at for at, key in enumerate(firsts)}
    found = []
    for row in firsts.values():
        steps = {entry: numbers.get(behaviour(servers, row + (entry,), deep)) for entry in entries
                 if can_be(servers, row + (entry,))}
        found.append((row, tuple(left_lots(servers, row)), steps))
    return found


def greatest_by_lots(machine):
    """The greatest lot of states at each of which the entries that lead into it cannot be left: by trying all."""
    best = ()
    for lot in lots_of(range(len(machine))):
        if all(not any(set(kept(machine, at, lot)) <= set(one) for one in machine[at][1]) for at in lot):
            if len(lot) > len(best):
                best = lot
    return best


def kept(machine, at, lot):
    return [entry for entry, target in machine[at][2].items() if target in lot]


def small_machines(seeds, most):
    """Servers with machines of two to so many states."""
    found = []
    for seed in seeds:
        servers = calm_servers(seed)
        if 2 <= len(least_machine(servers)) <= most:
            found.append(servers)
    return found


class MachineTest(unittest.TestCase):

    def test_example(self):
        steps = {X: 0, Y: 0}
        self.assertEqual(least_machine(servers=example_57_one()), [((), ((),), steps)])
        self.assertEqual(least_machine(example_57_other()), [((), ((X,), (Y,)), steps)])

    def test_states(self):
        # Two takes of x and then y; an offer of both in whatever state leads to the states of the takes.
        servers = of_body(TAKE, TAKE, ("take", "y", [NOTE]))
        self.assertEqual(least_machine(servers), [
            ((), ((Y,),), {X: 1}), ((X,), ((Y,),), {X: 2}), ((X, X), ((X,),), {Y: 0})])
        least_machine(servers)[0][2].clear()
        self.assertEqual(least_machine(servers)[0][2], {X: 1})

    def test_by_rows(self):
        sizes = set()
        for servers in small_machines(range(60), 6):
            machine = least_machine(servers)
            sizes.add(len(machine))
            longest = max(len(row) for row, _, _ in machine)
            self.assertEqual(machine_by_rows(servers, longest, 2), machine)
            for _, _, steps in machine:
                self.assertEqual(list(steps), sorted(steps))
            for row in all_rows(entries_of(servers), 3):
                self.assertEqual(lots_along(machine, row), left_lots(servers, row))
        self.assertGreater(len(sizes), 3)

    def test_alike_just_if_machines_are_equal(self):
        same = 0
        for one, other in alike_servers(range(150)):
            self.assertEqual(least_machine(one) == least_machine(other), must_part(one, other) is None)
            same += must_part(one, other) is None
        self.assertGreater(same, 3)

    def test_lots_along(self):
        machine = [((), ((Y,),), {X: 1}), ((X,), ((),), {Y: 0, X: 1})]
        self.assertEqual(lots_along(machine, []), [(Y,)])
        self.assertEqual(lots_along(row=(list(X), X), machine=machine), [()])
        self.assertEqual(lots_along(machine, [X, X, Y]), [(Y,)])
        self.assertEqual([lots_along(machine, row) for row in ([Y], [X, ("t", "z")], [Y, X])], [[], [], []])
        as_lists = [[[], [[list(Y)]], {X: 1}], [[list(X)], [[]], {Y: 0, X: 1}]]
        self.assertEqual(lots_along(tuple(as_lists), [X, Y]), [(Y,)])
        self.assertEqual(lots_along([((), (), {})], []), [])

    def test_bad_machines(self):
        good = ((), ((),), {X: 0})
        bad = any_objects() + [((), ((),)), ((), ((),), {X: 2}), ((), ((),), {X: -1}), ((), ((),), {X: True}),
                               ((), ((),), {X: None}), ((), ((),), {"s": 0}), ((), ((),), {("s",): 0}),
                               ((), ((),), {("s", "X"): 0}), ((), ((),), {("S", "x"): 0}), ((), ((),), [(X, 0)]), ((), (X,), {}), ((), X, {}),
                               ((), None, {}), (None, ((),), {}), (X, ((),), {}), (("x",), ((),), {}),
                               ((), ((Y, X),), {}), ((), ((X, X),), {}), ((), ((None,),), {}), ((), ((),), {X: 0}, 0)]
        for state in bad:
            for machine in ([state], [good, state]):
                error = raised(lots_along, machine, [])
                self.assertIsInstance(error, BadMachine)
                self.assertIs(error.thing, machine)
        for thing in any_objects():
            error = raised(lots_along, thing, [])
            self.assertIsInstance(error, BadMachine)
            self.assertIs(error.thing, thing)

    def test_restless(self):
        for work in (least_machine, greatest_caller):
            self.assertIsInstance(raised(work, of_body(NOTE)), Restless)


class SafeTest(unittest.TestCase):

    def test_example(self):
        self.assertEqual(greatest_caller(example_57_one()), {0: ({X: 0, Y: 0}, [(X,), (Y,)])})
        self.assertEqual(greatest_caller(servers=example_57_other()), {0: ({X: 0, Y: 0}, [(X, Y)])})
        alone, both = Caller([({X: 0}, False)]), Caller([({X: 0, Y: 0}, False)])
        for work in (is_safe, goes_along):
            self.assertEqual([work(example_57_one(), alone), work(example_57_other(), alone)], [True, False])
            self.assertTrue(work(caller=both, servers=example_57_other()))
            self.assertFalse(work(example_57_one(), Caller([({X: 1}, False), ({}, False)])))

    def test_none_is_safe(self):
        servers = of_body(("offer", [("f", "x", [])], None), v=[("take", "e", []), ("set", "g", True)])
        self.assertIsNotNone(greatest_caller(servers))
        servers = of_body(("offer", [("f", "x", [])], None))
        self.assertIsNone(greatest_caller(servers))
        self.assertFalse(goes_along(servers, Caller([({X: 0}, False)])))
        self.assertFalse(is_safe(servers, Caller([({X: 0}, False)])))

    def test_states_that_lead_out(self):
        # By x into a state at which nothing is taken any more: who is ready for x is not safe; y goes on.
        shut = ("offer", [("f", "x", []), ("f", "y", [])], None)
        servers = of_body(("offer", [(None, "x", [("set", "g", True)]), (None, "y", [])], None),
                          ("if", "g", [shut], []))
        machine = least_machine(servers)
        self.assertEqual(greatest_caller(servers), {0: ({Y: 0}, [(Y,)])})
        self.assertEqual(machine[0][2], {X: 1, Y: 0})
        for steps, safe in (({Y: 0}, True), ({X: 0, Y: 0}, False), ({X: 0}, False), ({}, False)):
            for work in (is_safe, goes_along):
                self.assertIs(work(servers, Caller([(steps, False)])), safe)

    def test_by_trying_lots(self):
        none, some = 0, 0
        for servers in small_machines(range(120), 7):
            machine = least_machine(servers)
            lot, told = greatest_by_lots(machine), greatest_caller(servers)
            if 0 not in lot:
                self.assertIsNone(told)
                none += 1
                continue
            self.assertEqual(list(told), list(lot))
            for at in lot:
                steps, needs = told[at]
                self.assertEqual(list(steps.items()), sorted((entry, machine[at][2][entry])
                                                             for entry in kept(machine, at, lot)))
                free = [one for one in lots_of(sorted(steps))
                        if not any(set(one) <= set(left) for left in machine[at][1])]
                self.assertEqual(needs, [one for one in free if not any(set(less) < set(one) for less in free)])
            some += 1
        self.assertGreater(min(none, some), 3)

    def test_safe_just_if_going_along(self):
        found = [0, 0]
        for seed, servers in enumerate(small_machines(range(60), 7) + [example_57_one(), example_57_other()]):
            luck = random.Random(seed)
            entries = entries_of(servers)
            callers = [made_up_caller(luck, entries, 2) for _ in range(10)]
            callers += [Caller([({entry: 0 for entry in lot}, False)]) for lot in lots_of(entries)]
            told = greatest_caller(servers)
            if told is not None:
                numbers = {at: number for number, at in enumerate(told)}
                callers.append(Caller([({entry: numbers[target] for entry, target in told[at][0].items()}, False)
                                       for at in told]))
                self.assertTrue(is_safe(servers, callers[-1]))
            for caller in callers:
                self.assertEqual(goes_along(servers, caller), is_safe(servers, caller))
                found[is_safe(servers, caller)] += 1
            self.assertEqual(told is not None, any(is_safe(servers, caller) for caller in callers))
        self.assertGreater(min(found), 20)

    def test_no_entry(self):
        caller = Caller([({X: 0}, True), ({("t", "a"): 0, ("s", "z"): 1, Y: 0}, True)])
        error = raised(goes_along, example_57_one(), caller)
        self.assertIsInstance(error, NoEntry)
        self.assertEqual((error.owner, error.entry), ("s", "z"))
        self.assertIsInstance(raised(goes_along, of_body(NOTE), caller), Restless)

    def test_sooner_or_later_has_no_greatest(self):
        # Each of these does x after so many y, and all are safe; the greatest one can do y for ever.
        servers = example_57_one()
        for many in range(4):
            states = [({Y: at + 1}, False) for at in range(many)] + [({X: many}, False)]
            self.assertTrue(is_safe(servers, Caller(states)))
        self.assertEqual(greatest_caller(servers)[0][0], {X: 0, Y: 0})


class LimitsTest(unittest.TestCase):

    def test_at_the_limits(self):
        for seed in (313, 1988, 2989, 3606):
            servers = calm_servers(seed)
            machine = least_machine(servers)
            luck = random.Random(seed)
            for row in list(product(entries_of(servers), repeat=2)):
                row = row * 4
                self.assertEqual(lots_along(machine, row), left_lots(servers, row))
            for _ in range(10):
                caller = made_up_caller(luck, entries_of(servers), 8)
                self.assertEqual(is_safe(servers, caller), goes_along(servers, caller))


if __name__ == "__main__":
    unittest.main()
