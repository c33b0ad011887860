"""Points 46 to 49: wanted stands, least stands, papers that they never come, all that comes."""

import random
import unittest
from itertools import product

from meettasks.allcounts import enough, known_numbers, most_in, spot_numbers
from meettasks.crowdruns import CrowdRun
from meettasks.crowds import Crowd
from meettasks.errors import BadMany, BadWanted, NoSpot
from meettasks.leaststands import least_many, least_stands, run_to, shows_never
from tests.crowdmakers import GUEST, NOTE, crowd_key, door, example_50, example_50_twice, made_up_crowd, worlds_of
from tests.objects import any_objects, raised

FIRST, SECOND = example_50().knowns()
TWO = ({}, {NOTE: 2})
BAD_WANTED = [({},), ({}, {}, {}), [{}, None], (None, {}), ({}, {NOTE: 0}), ({}, {NOTE: True}), ({}, {NOTE: "x"}),
              ({}, {("ready", (0, 0, 9)): 1}), ({}, {("ready", (0, 0)): 1}), ({}, {("met", (0, 0, 1)): 1}),
              ({}, {("ready", (False, 0, 1)): 1}), ({}, {"ready": 1}), ({}, {None: 1}), ({"zz": (0, 0, 0)}, {}),
              ({"door": (0,)}, {}), ({"door": (0, 0, 2)}, {}), ({"door": None}, {}), ({"door": "ended"}, {}),
              ({"door": (0, False, 0)}, {}), ({3: (0, 0, 0)}, {}), ({"main": (0,)}, {}), ([("door", (0, 0, 0))], {}),
              ({}, [(NOTE, 1)])]


def made_up_wanted(crowd, luck):
    some = luck.sample(crowd.spots(), luck.randint(0, min(2, len(crowd.spots()))))
    counts = {spot: luck.randint(1, 2) for spot in some}
    names = crowd.servers().names()
    if luck.random() < 0.6:
        at = luck.randrange(len(names))
        return {names[at]: luck.choice(crowd.knowns())[0][at][0]}, counts
    return {}, counts


def does_meet(crowd, wanted, key):
    names = crowd.servers().names()
    counts = dict(key[1])
    return (all(key[0][0][names.index(task)][0] == wanted[0][task] for task in wanted[0])
            and all(counts.get(spot, 0) >= wanted[1][spot] for spot in wanted[1]))


class Moves:
    """What steps do to pairs (known stand, counts), learnt from runs of many like ones."""

    def __init__(self, crowd):
        self.crowd = crowd
        self.moves = {}
        for many in range(5):
            start = CrowdRun(crowd, many)
            seen, coming = {crowd_key(start)}, [start]
            for run in coming:
                for step in run.let():
                    further = run.more([step])
                    self.learn(run, step, further)
                    if crowd_key(further) not in seen:
                        seen.add(crowd_key(further))
                        coming.append(further)

    def learn(self, run, step, further):
        change = {spot: further.counts().get(spot, 0) - run.counts().get(spot, 0) for spot in self.crowd.spots()}
        found = self.moves.setdefault((run.known(), step), (further.known(), change, dict(run.counts())))
        for spot in list(found[2]):
            # What is needed at least: what all that did it had.
            found[2][spot] = min(found[2][spot], run.counts().get(spot, 0))

    def before(self, known, counts):
        """The least stands before a pair."""
        found = []
        for (source, _), (target, change, needs) in self.moves.items():
            if target == known:
                found.append((source, {spot: max(needs.get(spot, 0), counts.get(spot, 0) - change[spot])
                                       for spot in self.crowd.spots()}))
        return [(source, {spot: many for spot, many in inner.items() if many}) for source, inner in found]


def is_inside(counts, other):
    return all(other.get(spot, 0) >= counts[spot] for spot in counts)


class WantedTest(unittest.TestCase):

    def test_example(self):
        self.assertEqual([least_many(example_50(), TWO), run_to(example_50(), TWO)], [None, None])
        self.assertEqual(least_many(wanted=[{}, {NOTE: 2}], crowd=example_50_twice()), 2)
        steps = run_to(wanted=TWO, crowd=example_50_twice())
        self.assertEqual(CrowdRun(example_50_twice(), 2, steps).counts(), {NOTE: 2})
        self.assertEqual(len(steps), 4)
        self.assertEqual([least_many(example_50(), ({}, {})), run_to(example_50(), ({}, {}))], [0, []])
        self.assertEqual(least_many(example_50(), ({"door": [0, 0, 1]}, {})), 1)
        self.assertEqual(least_many(example_50(), ({"door": (0, 0, 0)}, {("ready", (0, 0, 0)): 40})), 40)
        self.assertEqual(run_to(example_50(), ({}, {("ready", (0, 0, 0)): 40})), [])

    def test_least_stands_example(self):
        told = least_stands(example_50(), TWO)
        enter = [("calling", (0, 0, 0)), ("ready", (0, 0, 0))]
        leave = [("calling", (0, 0, 2)), ("ready", (0, 0, 2))]
        expected = [(FIRST, {NOTE: 2})]
        expected += [(FIRST, dict(sorted({one: 1, two: 1}.items()))) for one in enter for two in [NOTE] + leave]
        places = [NOTE] + leave
        for at, one in enumerate(places):
            for two in places[at:]:
                expected.append((SECOND, {one: 2} if one == two else dict(sorted({one: 1, two: 1}.items()))))
        self.assertEqual(len(told), 13)
        self.assertEqual(told, sorted(expected, key=lambda pair: (pair[0], list(pair[1].items()))))
        for _, counts in told:
            self.assertEqual(list(counts), sorted(counts))
        self.assertTrue(shows_never(example_50(), TWO, told))
        told[0][1].clear()
        self.assertEqual(least_stands(example_50(), TWO)[1:], told[1:])
        self.assertEqual(len(least_stands(example_50(), TWO)[0][1]), 2)

    def test_by_stepping(self):
        numbers, never = set(), 0
        for seed in range(90):
            crowd, luck = made_up_crowd(seed), random.Random(seed)
            if len(crowd.knowns()) > 40:
                continue
            worlds = worlds_of(crowd, 4, 600)
            for _ in range(3):
                wanted = made_up_wanted(crowd, luck)
                found = [many for many, world in enumerate(worlds)
                         if any(does_meet(crowd, wanted, key) for key in world)]
                told = least_many(crowd, wanted)
                numbers.add(told)
                never += told is None
                if found:
                    self.assertEqual(told, found[0])
                    # It comes with each greater number, too.
                    self.assertEqual(found, list(range(found[0], len(worlds))))
                else:
                    self.assertTrue(told is None or told >= len(worlds))
                self.check_run(crowd, wanted, told, worlds)
        self.assertLessEqual({None, 0, 1, 2, 3}, numbers)
        self.assertGreater(never, 10)

    def check_run(self, crowd, wanted, told, worlds):
        steps = run_to(crowd, wanted)
        if told is None:
            self.assertIsNone(steps)
            return
        self.assertTrue(does_meet(crowd, wanted, crowd_key(CrowdRun(crowd, told, steps))))
        if told < len(worlds):
            self.assertEqual(len(steps), min(many for key, many in worlds[told].items()
                                             if does_meet(crowd, wanted, key)))

    def test_errors(self):
        for wanted in any_objects() + BAD_WANTED:
            for work, more in ((least_many, ()), (run_to, ()), (least_stands, ()), (shows_never, (None,))):
                error = raised(work, example_50(), wanted, *more)
                self.assertIsInstance(error, BadWanted)
                self.assertIs(error.thing, wanted)


class PaperTest(unittest.TestCase):

    def test_least_ones_lead_and_lesser_do_not(self):
        checked = 0
        for seed in range(60):
            crowd, luck = made_up_crowd(seed), random.Random(seed)
            if len(crowd.knowns()) > 6 or len(crowd.spots()) > 8:
                continue
            wanted = made_up_wanted(crowd, luck)
            told = least_stands(crowd, wanted)
            keys = [(known, list(counts.items())) for known, counts in told]
            self.assertEqual(keys, sorted(keys))
            moves = Moves(crowd)
            # All least stands that steps come to, backward, by plain looking at steps that runs did.
            found = [(known, dict(wanted[1])) for known in crowd.knowns()
                     if does_meet(crowd, wanted, (known, wanted[1].items()))]
            for known, counts in found:
                for source, before in moves.before(known, counts):
                    if not any(one == source and is_inside(inner, before) for one, inner in found):
                        found.append((source, before))
            found = [(known, counts) for known, counts in found if not any(
                one == known and inner != counts and is_inside(inner, counts) for one, inner in found)]
            for known, counts in found:
                self.assertTrue(any(one == known and is_inside(inner, counts) for one, inner in told))
            checked += 1
        self.assertGreater(checked, 15)

    def test_least_ones_lead_there(self):
        # Those that runs have: each stand of a small world leads to wanted just if one of the list lies within it.
        for seed in range(40):
            crowd, luck = made_up_crowd(seed), random.Random(seed + 1)
            worlds = worlds_of(crowd, 3, 200)
            wanted = made_up_wanted(crowd, luck)
            told = least_stands(crowd, wanted)
            for many, world in enumerate(worlds):
                leading = leading_in(crowd, many, wanted)
                for key in world:
                    within = any(known == key[0] and is_inside(counts, dict(key[1])) for known, counts in told)
                    self.assertEqual(within, key in leading)

    def test_shows_never(self):
        crowd, told = example_50(), least_stands(example_50(), TWO)
        self.assertTrue(shows_never(thing=tuple(told[::-1]), wanted=TWO, crowd=crowd))
        self.assertTrue(shows_never(crowd, TWO, told + told[3:5]))
        self.assertTrue(shows_never(crowd, TWO, told + [(FIRST, {NOTE: 3, ("ended", ()): 10 ** 30})]))
        as_lists = [[[[[list(path), list(flags)] for path, flags in known[0]], list(known[1])], counts]
                    for known, counts in told]
        self.assertTrue(shows_never(crowd, TWO, as_lists))
        for at in range(len(told)):
            self.assertFalse(shows_never(crowd, TWO, told[:at] + told[at + 1:]))
            for spot in crowd.spots():
                great = [(told[at][0], {spot: 10 ** 30})]
                self.assertFalse(shows_never(crowd, TWO, told[:at] + great + told[at + 1:]))
        home = ("ready", (0, 0, 0))
        for pair in ((FIRST, {}), (FIRST, {home: 5}), (FIRST, {NOTE: 0}), (FIRST, {NOTE: True}), (FIRST, None),
                     (FIRST, {("met", (0, 0, 1)): 1}), (FIRST,), FIRST, None, ((), {}), (((), ()), {NOTE: 3}),
                     (FIRST, {NOTE: 3}, 0), ((FIRST[0],), {NOTE: 3}), ((FIRST[0], ("x",)), {NOTE: 3}),
                     ((FIRST[0], None), {NOTE: 3}), (((((0, 0, 0), None),), ()), {NOTE: 3}), (((((0, 0, False), ()),), ()), {NOTE: 3})):
            self.assertIs(shows_never(crowd, TWO, told + [pair]), False)
        for thing in any_objects():
            self.assertIs(shows_never(crowd, TWO, thing), False)
        # Nobody can stand behind the end of a body that has none: nothing has to be shown but this.
        self.assertTrue(shows_never(crowd, ({}, {("ended", ()): 1}),
                                    [(FIRST, {("ended", ()): 1}), (SECOND, {("ended", ()): 1})]))
        self.assertFalse(shows_never(crowd, ({}, {("ended", ()): 1}), [(FIRST, {("ended", ()): 1})]))
        self.assertFalse(shows_never(crowd, ({}, {("ended", ()): 1}), []))

    def test_just_if_it_never_comes(self):
        shown = 0
        for seed in range(80):
            crowd, luck = made_up_crowd(seed), random.Random(seed + 2)
            if len(crowd.knowns()) <= 30:
                wanted = made_up_wanted(crowd, luck)
                told = least_stands(crowd, wanted)
                self.assertEqual(shows_never(crowd, wanted, told), least_many(crowd, wanted) is None)
                shown += least_many(crowd, wanted) is None
                for at in range(len(told)):
                    self.assertFalse(shows_never(crowd, wanted, told[:at] + told[at + 1:]))
        self.assertGreater(shown, 5)


def leading_in(crowd, many, wanted):
    """The stands of so many like ones from which some run meets what is wanted."""
    start = CrowdRun(crowd, many)
    runs, sources = {crowd_key(start): start}, {}
    coming = [start]
    for run in coming:
        for step in run.let():
            further = run.more([step])
            sources.setdefault(crowd_key(further), []).append(crowd_key(run))
            if crowd_key(further) not in runs:
                runs[crowd_key(further)] = further
                coming.append(further)
    found = {key for key in runs if does_meet(crowd, wanted, key)}
    coming = list(found)
    while coming:
        for source in sources.get(coming.pop(), []):
            if source not in found:
                found.add(source)
                coming.append(source)
    return found


class AllCountsTest(unittest.TestCase):

    def test_example(self):
        self.assertEqual(known_numbers(example_50()), [(FIRST, 0), (SECOND, 1)])
        self.assertEqual(spot_numbers(crowd=example_50()), {
            spot: 1 for spot in example_50().spots() if spot[0] not in ("ended", "met")})
        self.assertEqual([enough(example_50()), enough(crowd=example_50_twice())], [1, 2])
        self.assertEqual(most_in(example_50_twice(), NOTE, 6), 2)
        self.assertEqual(most_in(most=1, spot=["ready", [0, 0, 1]], crowd=example_50_twice()), 1)
        self.assertEqual(most_in(example_50(), NOTE, 6), 1)
        self.assertEqual(most_in(example_50(), ("ready", (0, 0, 0)), 6), 6)
        self.assertEqual(most_in(example_50(), ("ended", ()), 6), 0)

    def test_by_stepping(self):
        greatest = set()
        for seed in range(90):
            crowd = made_up_crowd(seed)
            if len(crowd.knowns()) > 30:
                continue
            worlds = worlds_of(crowd, 4, 500)
            knowns, spots = dict(known_numbers(crowd)), spot_numbers(crowd)
            self.assertEqual([known for known, _ in known_numbers(crowd)], sorted(knowns))
            self.assertEqual(list(spots), sorted(spots))
            for known in crowd.knowns():
                self.check(known, knowns, worlds, lambda key: key[0] == known)
            for spot in crowd.spots():
                self.check(spot, spots, worlds, lambda key: dict(key[1]).get(spot, 0) > 0)
                self.check_most(crowd, spot, worlds)
            self.assertEqual(enough(crowd), max(list(knowns.values()) + list(spots.values())))
            greatest.add(enough(crowd))
        self.assertLessEqual({1, 2, 3}, greatest)

    def check(self, thing, told, worlds, test):
        found = [many for many, world in enumerate(worlds) if any(test(key) for key in world)]
        if found:
            self.assertEqual(told[thing], found[0])
        else:
            self.assertTrue(thing not in told or told[thing] >= len(worlds))

    def check_most(self, crowd, spot, worlds):
        most = max(dict(key[1]).get(spot, 0) for world in worlds for key in world)
        for up_to in (1, 3):
            self.assertGreaterEqual(most_in(crowd, spot, up_to), min(most, up_to))
            self.assertEqual(most_in(crowd, spot, up_to) >= 1, spot in spot_numbers(crowd))

    def test_errors(self):
        for thing in any_objects() + [("ready", (0, 0, 9)), ("ready", (False, 0, 1)), ("met", (0, 0, 1)), NOTE + (1,)]:
            error = raised(most_in, example_50(), thing, None)
            self.assertIsInstance(error, NoSpot)
            self.assertIs(error.thing, thing)
            if type(thing) is not int or thing < 1:
                error = raised(most_in, example_50(), NOTE, thing)
                self.assertIsInstance(error, BadMany)
                self.assertIs(error.thing, thing)
        self.assertEqual(most_in(Crowd(door("in", "out"), GUEST[:1]), NOTE, 10 ** 30), 1)


class SearchTest(unittest.TestCase):

    def test_all_lots_of_wanted(self):
        crowd = example_50_twice()
        spots = [NOTE, ("calling", (0, 0, 2)), ("ready", (0, 0, 0))]
        worlds = worlds_of(crowd, 6)
        for numbers in product(range(3), repeat=3):
            wanted = ({}, {spot: many for spot, many in zip(spots, numbers) if many})
            found = [many for many, world in enumerate(worlds) if any(does_meet(crowd, wanted, key) for key in world)]
            self.assertEqual(least_many(crowd, wanted), found[0] if found else None)


if __name__ == "__main__":
    unittest.main()
