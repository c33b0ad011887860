"""Point 16: programs unfolded."""

import unittest
from itertools import combinations

from meettasks.errors import BadEvents, NoStand
from meettasks.programs import Program
from meettasks.standing import first_orders
from meettasks.unfolding import events_for, is_configuration, stand_by, unfolded
from tests.makers import LOCK, example_19, example_19_notes, nest, servers, small_programs
from tests.objects import any_objects, raised
from tests.plain import all_orders, distances_from, marks_of, touching_marks, world_of

BEGIN = ("main", "begin")


def own_events(program, longest, most):
    """Events with fewer than longest causes, as unfolded tells them, from all orders; None for too many orders."""
    orders = all_orders(program, longest, most)
    if orders is None:
        return None
    lots = {}
    for order in orders:
        if tuple(order) not in lots:
            same = distances_from(program, order)
            for one in same:
                lots[one] = min(same)
    members = {}
    for order, least in lots.items():
        members.setdefault(least, []).append(order)
    events = [least for least in members
              if least and len({marks_of(order)[-1] for order in members[least]}) == 1]
    return told_events(world_of(program), events, members, lots)


def told_events(world, events, members, lots):
    causes = {event: {lots[order[:at]] for order in members[event] for at in range(1, len(order))} - {event}
              for event in events}
    causes = {event: {cause for cause in causes[event] if cause in causes} for event in events}
    steps = {event: members[event][0][-1] for event in events}
    key = {event: (len(causes[event]), sorted([steps[one] for one in causes[event]] + [steps[event]]))
           for event in events}
    told, numbers, first = [], {}, {0: -1}
    for event in sorted(events, key=lambda event: (key[event], event)):
        if all(cause in numbers and told[numbers[cause]][2] is None for cause in causes[event]):
            at = 0
            for step in event:
                at = dict(world.goes[at])[step]
            mate = first.get(at)
            if mate is not None and mate >= 0:
                other = next(one for one in numbers if numbers[one] == mate)
                mate = mate if key[other] < key[event] else None
            first.setdefault(at, len(told))
            nearest = sorted(numbers[one] for one in causes[event]
                             if not any(one in causes[other] for other in causes[event]))
            numbers[event] = len(told)
            told.append((steps[event], tuple(nearest), mate))
    return told


class UnfoldedTest(unittest.TestCase):

    def test_examples(self):
        self.assertEqual(unfolded(example_19_notes()), [
            (BEGIN, (), None), (("a", "note"), (0,), None), (("b", "note"), (0,), None),
            (("a", "note"), (1,), None), (("main", "closes"), (2, 3), None)])
        found = unfolded(program=example_19())
        self.assertEqual(len(found), 19)
        self.assertEqual(found[8], (("b", "call"), (5,), None))

    def test_cut_events(self):
        program = Program([("again", [("pick", [[("note", "x")], [("note", "x")], []])])])
        self.assertEqual(unfolded(program), [
            (("main", "pick", 0), (), None), (("main", "pick", 1), (), None), (("main", "pick", 2), (), -1),
            (("main", "note"), (0,), -1), (("main", "note"), (1,), -1)])
        program = Program([("pick", [[], []]), ("note", "x")])
        self.assertEqual(unfolded(program), [
            (("main", "pick", 0), (), None), (("main", "pick", 1), (), 0), (("main", "note"), (0,), None)])
        # As many causes and the same steps: neither is cut.
        program = Program(nest({"a": [("use", "t", "give")], "b": [("use", "t", "give")]}), {"t": LOCK})
        self.assertEqual([mate for _, _, mate in unfolded(program)], [None] * 7)

    def test_by_trying_out(self):
        many = 0
        programs = small_programs(40, range(3500, 4500), 40) + [servers(seed) for seed in range(30)]
        for program in programs:
            if len(first_orders(program)) > 60:
                continue
            longest = 6
            want = own_events(program, longest, 1500)
            if want is None:
                longest = 4
                want = own_events(program, longest, 1500)
            if want is not None:
                many += 1
                self.assertEqual(self.with_fewer_causes(unfolded(program), longest), want)
        self.assertGreater(many, 30)

    def with_fewer_causes(self, events, longest):
        found = []
        for event in events:
            coming, causes = list(event[1]), set()
            while coming:
                cause = coming.pop()
                causes.add(cause)
                coming.extend(events[cause][1])
            if len(causes) < longest:
                found.append(event)
        return found


class ConfigurationsTest(unittest.TestCase):

    def test_all_lots(self):
        many = 0
        for program in small_programs(40, range(4500, 5500), 30):
            events = unfolded(program)
            if len(events) <= 9:
                many += 1
                for long in range(len(events) + 1):
                    for lot in combinations(range(len(events)), long):
                        self.check_lot(program, events, lot)
        self.assertGreater(many, 10)

    def check_lot(self, program, events, lot):
        """In the order of their numbers the steps are an order whose steps have just these causes."""
        order = [events[number][0] for number in lot]
        closed = all(cause in lot for number in lot for cause in events[number][1])
        works = closed
        world = world_of(program) if works else None
        at = 0
        for step in order if works else []:
            if step not in dict(world.goes[at]):
                works = False
                break
            at = dict(world.goes[at])[step]
        if works:
            touching = touching_marks(program, order)
            for place, number in enumerate(lot):
                nearest = {lot[one] for one in range(place) if (one, place) in touching}
                causes = self.all_causes(events, number)
                works = works and nearest <= causes
        self.assertIs(is_configuration(program, list(lot)), works, lot)
        if works:
            self.assertTrue(is_configuration(program, tuple(reversed(lot))))
            self.assertEqual(stand_by(program, list(reversed(lot))), at)
        else:
            thing = list(lot)
            error = raised(stand_by, program, thing)
            self.assertIsInstance(error, BadEvents)
            self.assertIs(error.thing, thing)

    def all_causes(self, events, number):
        found = set()
        coming = list(events[number][1])
        while coming:
            cause = coming.pop()
            if cause not in found:
                found.add(cause)
                coming.extend(events[cause][1])
        return found

    def test_each_stand_and_each_step(self):
        for program in small_programs(30, range(5500, 6500), 60) + [servers(seed) for seed in range(20)]:
            world = world_of(program)
            events = unfolded(program)
            if len(world.runs) > 80:
                continue
            for at in range(len(world.runs)):
                lot = events_for(program, at)
                self.assertIsInstance(lot, list)
                self.assertTrue(is_configuration(program, lot))
                self.assertEqual(stand_by(program, lot), at)
                self.assertTrue(all(events[number][2] is None for number in lot))
                for step, _ in world.goes[at]:
                    self.assertIn(step, [event[0] for event in events])

    def test_free_is_the_same_for_equal_arguments(self):
        for seed in range(10):
            one, other = servers(seed), servers(seed)
            for at in range(len(first_orders(one))):
                self.assertEqual(events_for(one, at), events_for(other, number=at))

    def test_any_objects(self):
        program = example_19()
        for thing in any_objects():
            works = is_configuration(program, thing)
            self.assertIs(works, isinstance(thing, (list, tuple)) and (
                list(thing) == [] or list(thing) == [0] and not isinstance(thing[0], bool)))
            if not works:
                error = raised(stand_by, program, thing)
                self.assertIsInstance(error, BadEvents)
                self.assertIs(error.thing, thing)
            if isinstance(thing, bool) or not isinstance(thing, int) or not 0 <= thing < 12:
                error = raised(events_for, program, thing)
                self.assertIsInstance(error, NoStand)
                self.assertIs(error.number, thing)
        self.assertTrue(is_configuration(program, [1, 0]))
        self.assertFalse(is_configuration(program, [1]))
        self.assertFalse(is_configuration(program, [0, 1, 1]))
        self.assertFalse(is_configuration(program, [0, 1, 2]))
        self.assertFalse(is_configuration(program, [False]))

    def test_limits(self):
        tasks = {name: [("call", "s", "e", [])] for name in "abc"}
        tasks["s"] = [("take", "e", [])] * 3
        self.assertEqual(len(unfolded(Program(nest(tasks)))), 151)


if __name__ == "__main__":
    unittest.main()
