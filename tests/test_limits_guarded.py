"""Points 42, 50 and 57: inputs at the limits, all questions of them."""

import unittest

from meettasks.allcounts import enough, known_numbers, most_in, spot_numbers
from meettasks.callrows import calls_that_part, gone_on, least_thing, like_values
from meettasks.crowdruns import CrowdRun
from meettasks.leaststands import least_many, least_stands, run_to, shows_never
from meettasks.marks import barred_abort, breakers, keepers
from meettasks.outside import can_be, can_be_left, entries_of, left_lots
from meettasks.programs import Program
from meettasks.sentences import breach, values_coming, values_left
from meettasks.standing import first_orders
from meettasks.things import Thing
from meettasks.uses import first_open, helpers_of, idle_lots, is_shut_ring, shut_ring
from tests.crowdmakers import NOTE, example_50, example_50_twice, made_up_crowd
from tests.makers import made_up, nest
from tests.marked import MarkedWorld
from tests.outworlds import calm_servers, lots_left
from tests.test_sentences import all_marks

VALUES = ["a", "b", "c", "d", "e", "f"]


def wheel(step, entries):
    """A thing of six values that its four deeds lead round by unlike many."""
    led = {name: {value: VALUES[(at + step + turn) % 6] for at, value in enumerate(VALUES)}
           for turn, name in enumerate("klmn")}
    return Thing(VALUES, "a", led, entries)


SHUT = {name: {"f": "a"} for name in "wxyz"}


class GuardedTest(unittest.TestCase):

    def test_three_hundred_stands_five_marks(self):
        program = made_up(5, many=4, most=4)
        self.assertEqual(len(first_orders(program)), 299)
        marks = all_marks(program)[:5]
        world = MarkedWorld(program, marks)
        self.assertEqual([values_coming(program, marks), values_left(program, marks)],
                         [world.values(), world.values(True)])
        for sentence in ({"t": ["free"], "u": ["no"]}, {"u": ["no", "one"]}):
            self.assertEqual(breach(program, sentence, False, marks), world.breach(sentence, False))
            kept, broken = [work(program, sentence, False, marks) for work in (keepers, breakers)]
            self.assertTrue(all(set(one) & set(other) for one in kept for other in broken))
        self.assertEqual(barred_abort(program, marks), world.barred_abort())

    def test_six_values_eight_names(self):
        thing = wheel(0, SHUT)
        names = sorted(list(thing.deeds()) + list(thing.entries()))
        self.assertEqual(first_open(thing, "w", names), ["m", "n"])
        rest = [name for name in names if name != "w"]
        for lot in helpers_of(thing, "w"):
            self.assertIsNone(shut_ring(thing, "w", lot))
        for lot in idle_lots(thing, "w"):
            self.assertTrue(is_shut_ring(thing, "w", lot, shut_ring(thing, "w", lot)))
            self.assertTrue(set(lot) <= set(rest))

    def test_three_callers(self):
        thing, other = wheel(0, SHUT), wheel(0, {**SHUT, "z": {"f": "b"}})
        self.assertEqual(like_values(thing, 3), [(value,) for value in VALUES])
        self.assertEqual(least_thing(thing, 3), thing)
        self.assertIsNone(calls_that_part(thing, wheel(0, SHUT), 3))
        row = calls_that_part(thing, other, 3)
        self.assertNotEqual(gone_on(thing, 3, row), gone_on(other, 3, row))
        self.assertEqual(gone_on(thing, 3, row[:-1]), gone_on(other, 3, row[:-1]))
        alike = Thing(VALUES, "a", {name: {value: "b" for value in VALUES} for name in "klmn"},
                      {name: {"f": "a", "e": "a"} for name in "wxyz"})
        self.assertEqual(like_values(alike, 3), [("a", "b", "c", "d"), ("e", "f")])
        self.assertEqual(least_thing(alike, 3).worths(), ["a"])


class CrowdsTest(unittest.TestCase):

    def test_twelve_known_stands(self):
        # By most spots of theirs up to three thousand least stands lead there.
        most = 0
        for seed, spots in ((2928, made_up_crowd(2928).spots()[:10]), (1155, [
                ("calling", (2, 1, 0)), ("met", (2, 0, 0)), ("ready", (0,)), ("ready", (2, 1, 0)), ("met", (0,))])):
            crowd = made_up_crowd(seed)
            self.assertEqual([len(crowd.knowns()), len(crowd.spots())], [12, 12])
            for spot in spots:
                wanted = ({}, {spot: 6})
                told, many = least_stands(crowd, wanted), least_many(crowd, wanted)
                most = max(most, len(told))
                self.assertEqual(shows_never(crowd, wanted, told), many is None)
                self.assertEqual(most_in(crowd, spot, 6) == 6, many is not None)
                if many is not None:
                    steps = run_to(crowd, wanted)
                    self.assertGreaterEqual(CrowdRun(crowd, many, steps).counts()[spot], 6)
            numbers = [many for _, many in known_numbers(crowd)] + list(spot_numbers(crowd).values())
            self.assertEqual(enough(crowd), max(numbers))
        self.assertGreater(most, 2500)

    def test_forty_like_ones_sixty_steps(self):
        steps = [("like", (0, 0, 0))] * 40 + [("door", "take")] * 2 + [("like", (0, 0, 1))] * 2
        steps = steps + [("like", (0, 0, 2)), ("door", "take")] * 2 + [("door", "take")] * 2
        run = CrowdRun(example_50_twice(), 40, steps)
        self.assertEqual(run.counts(), {("calling", (0, 0, 0)): 36, ("ready", (0, 0, 0)): 2, NOTE: 2})
        self.assertEqual(least_many(example_50(), ({}, {("calling", (0, 0, 0)): 39, NOTE: 1})), 40)


class OutsideTest(unittest.TestCase):

    def test_sixty_known_stands(self):
        for seed in (313, 1988, 2989, 3606):
            servers = calm_servers(seed)
            entries = entries_of(servers)
            for row in ([], entries[:1], entries[1:3], entries[:2] * 2, entries[-1:] * 3):
                told = left_lots(servers, row)
                self.assertEqual(told, lots_left(servers, row, entries))
                self.assertEqual(can_be(servers, row), told != [])
                self.assertEqual(can_be_left(servers, row, entries), tuple(entries) in told)
            row = []
            for _ in range(8):
                row = row + [entry for entry in entries if can_be(servers, row + [entry])][:1]
            self.assertTrue(can_be(servers, row))


class TasksTest(unittest.TestCase):

    def test_eight_tasks_three_things(self):
        things = {name: Thing(VALUES, "a", {"up": {value: VALUES[min(at + 1, 5)] for at, value in enumerate(VALUES)}},
                              {}) for name in ("p", "q", "r")}
        tasks = {name: [("use", thing, "up")] for name, thing in zip("abcdefg", "pqrpqrp")}
        program = Program(nest(tasks), things)
        self.assertEqual(len(values_coming(program)), 4 * 3 * 3)
        self.assertEqual(values_left(program), [("d", "c", "c")])
        self.assertEqual(breach(program, {"p": VALUES[:3], "q": VALUES, "r": VALUES}, False),
                         [("main", "begin"), ("a", "use"), ("d", "use"), ("g", "use")])


if __name__ == "__main__":
    unittest.main()
