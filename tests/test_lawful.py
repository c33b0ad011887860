"""Points 69 and 70: lawful lists, their bounds, and just one of a course and a ring."""

import random
import unittest

from meettasks.errors import BadCourse, NoComing
from meettasks.fates import all_fates
from meettasks.lawful import bounds_of, course_in, is_lawful, ring_in, way_in
from meettasks.timed import Timed, is_course
from tests.objects import any_objects, raised
from tests.timedmakers import (
    behind, deed_of, example_73, first_path, late_path, limit_of, made_up_timed, plain_courses)

LATE_FIRST = [("s", (1,), "comes"), ("s", (1,), "late"), ("a", (1,), "comes"), ("a", (1,), "late")]
MEETING = [("a", (1,), "comes"), ("s", (1,), "comes")]


def stop_from(tasks, task, path):
    """The next call or take from a path on, () for the end."""
    while path and deed_of(tasks, task, path)[0] in ("note", "work"):
        path = behind(tasks, task, path)
    return path


def plain_ways(tasks, places, waiting):
    """The pairs (triple, (places, waiting)) of all that can come next, by the words of point 69."""
    found = []
    for task in tasks:
        here = places[task]
        if here and task not in waiting:
            deed = deed_of(tasks, task, here)
            mates = [other for other in waiting if deed_of(tasks, other, places[other])[0] != deed[0]
                     and fit(task, deed, other, deed_of(tasks, other, places[other]))]
            if mates:
                gone = {one: stop_from(tasks, one, behind(tasks, one, places[one])) for one in (task, mates[0])}
                left = tuple(one for one in waiting if one != mates[0])
            else:
                gone, left = {}, waiting + (task,)
            found.append(((task, here, "comes"), ({**places, **gone}, left)))
        if task in waiting and limit_of(deed_of(tasks, task, here)) is not None:
            left = tuple(one for one in waiting if one != task)
            gone = {task: stop_from(tasks, task, late_path(tasks, task, here))}
            found.append(((task, here, "late"), ({**places, **gone}, left)))
    return found


def fit(one, deed, other, there):
    if deed[0] == "take":
        return fit(other, there, one, deed)
    return deed[1] == other and deed[2] == there[1]


def plain_lawful(timed, most):
    """All lawful lists; None if there are more than most."""
    tasks = timed.tasks()
    start = {task: stop_from(tasks, task, first_path(tasks, task)) for task in tasks}
    found, coming = [], [((), (start, ()))]
    while coming:
        row, (places, waiting) = coming.pop()
        ways = plain_ways(tasks, places, waiting)
        if not ways:
            found.append(list(row))
        coming += [(row + (triple,), further) for triple, further in ways]
        if len(found) + len(coming) > most:
            return None
    return found


def is_kept(bounds, moments):
    return all(moments[other] <= moments[one] + number for one, other, number in bounds)


class LawfulTest(unittest.TestCase):

    def test_example(self):
        timed = example_73()
        self.assertIs(is_lawful(timed, LATE_FIRST), True)
        self.assertIs(is_lawful(thing=tuple([list(row[:1]) + [list(row[1]), row[2]] for row in MEETING]), timed=timed),
                      True)
        for order in (LATE_FIRST[:2], LATE_FIRST[:3], LATE_FIRST[::-1], LATE_FIRST + LATE_FIRST[:1], [], MEETING[:1],
                      MEETING + [("a", (1,), "late")], [("a", (1,), "late")] + MEETING, MEETING[::-1] + MEETING[:1],
                      [("a", (0,), "comes")] + MEETING, [("a", (1,), "meets")] + MEETING[1:],
                      [("a", (True,), "comes")] + MEETING[1:], [("a", (1,), "comes", 0)] + MEETING[1:]):
            self.assertIs(is_lawful(timed, order), False)
        self.assertIs(is_lawful(timed, MEETING[::-1]), True)
        for thing in any_objects():
            self.assertIs(is_lawful(timed, thing), False)
            self.assertIs(is_lawful(timed, [thing]), False)
            self.assertIs(is_lawful(timed, [("a", thing, "comes")] + MEETING[1:]), False)
            self.assertIs(is_lawful(timed, [("a", (1,), thing)] + MEETING[1:]), False)
        self.assertIs(is_lawful(Timed({"a": []}), []), True)

    def test_who_has_no_limit_is_never_late(self):
        timed = Timed({"a": [("call", "b", "e", None, [])], "b": []})
        self.assertTrue(is_lawful(timed, [("a", (0,), "comes")]))
        self.assertFalse(is_lawful(timed, [("a", (0,), "comes"), ("a", (0,), "late")]))

    def test_rows_go_as_they_came(self):
        tasks = {"a": [("call", "c", "e", None, [])], "b": [("call", "c", "e", None, [])],
                 "c": [("take", "e", 5, 0, 0, []), ("take", "e", 5, 0, 0, [])]}
        timed = Timed(tasks)
        both = [("a", (0,), "comes"), ("b", (0,), "comes"), ("c", (0,), "comes"), ("c", (1,), "comes")]
        self.assertTrue(is_lawful(timed, both))
        self.assertEqual(course_in(timed, both)[0][0], ("a", (0,), ("meets", "c", (0,))))
        turned = [both[1], both[0]] + both[2:]
        self.assertEqual(course_in(timed, turned)[0][0], ("a", (0,), ("meets", "c", (1,))))

    def test_all_lawful_lists(self):
        many = 0
        for seed in range(200):
            timed = made_up_timed(seed, tasks=2 + seed % 3, meetings=4)
            lists = plain_lawful(timed, 300)
            if lists is not None and len(lists) > 1:
                many += 1
                luck = random.Random(seed)
                for order in lists[:40]:
                    self.assertTrue(is_lawful(timed, order))
                    self.assertFalse(is_lawful(timed, order[:-1]))
                    turned = list(order)
                    at = luck.randrange(len(order))
                    turned.insert(luck.randrange(len(order)), turned.pop(at))
                    self.assertEqual(is_lawful(timed, turned), turned in lists)
        self.assertGreater(many, 80)


class BoundsTest(unittest.TestCase):

    def test_example(self):
        work, call, gone, back, end = [("a", path) for path in ((0,), (1,), (1, 0, 0), (2,), ())]
        first, take, free, over = [("s", path) for path in ((0,), (1,), (2,), ())]
        along = [(work, first, 0), (first, work, 0), (work, call, 5), (call, work, -2), (call, gone, 3),
                 (gone, call, -3), (gone, back, 0), (back, gone, 0), (back, end, 0), (end, back, 0),
                 (first, take, 6), (take, first, -4), (take, free, 2), (free, take, -2), (free, over, 0), (over, free, 0)]
        order = [(free, take, 0), (call, take, 0), (gone, take, 0), (call, free, 0), (gone, free, 0), (gone, call, 0)]
        # Of two bounds the least number alone.
        self.assertEqual(bounds_of(example_73(), LATE_FIRST), sorted(
            along + [bound for bound in order if bound[:2] not in [row[:2] for row in along]]))
        both = [(call, work, -2), (work, call, 5), (take, first, -4), (first, take, 6), (call, take, 3),
                (take, call, 0), (take, back, 1), (back, take, -1), (take, free, 1), (free, take, -1),
                (back, free, 0), (free, back, 0), (back, end, 0), (end, back, 0), (free, over, 0), (over, free, 0),
                (work, first, 0), (first, work, 0)]
        self.assertEqual(bounds_of(order=[list(row) for row in MEETING], timed=example_73()), sorted(both))

    def test_first_things(self):
        timed = Timed({"a": [], "b": [("note", "x")], "c": [("take", "e", 3, 0, 0, [])]})
        end, note, over, take, last = ("a", ()), ("b", (0,)), ("b", ()), ("c", (0,)), ("c", ())
        firsts = [end, note, take]
        told = bounds_of(timed, [("c", (0,), "comes"), ("c", (0,), "late")])
        self.assertEqual(told, sorted(
            [(one, other, 0) for one in firsts for other in firsts if one != other]
            + [(note, over, 0), (over, note, 0), (take, last, 3), (last, take, -3)]))
        told.clear()
        self.assertEqual(len(bounds_of(timed, [("c", (0,), "comes"), ("c", (0,), "late")])), 10)

    def test_all_courses_are_those_of_lawful_lists(self):
        many = 0
        for seed in range(150):
            timed = made_up_timed(seed, tasks=2, meetings=3)
            lists = plain_lawful(timed, 60)
            courses = plain_courses(timed, 1500)
            if lists is None or courses is None:
                continue
            many += 1
            happen = set()
            for order in lists:
                bounds, course = bounds_of(timed, order), course_in(timed, order)
                kept = [moments for fates, moments in courses if course and fates == course[0]
                        and is_kept(bounds, dict(moments))]
                happen.update([(course[0], moments) for moments in kept])
                self.assertEqual(course is None, not kept)
            self.assertEqual(happen, courses)
        self.assertGreater(many, 60)


class JustOneTest(unittest.TestCase):

    def test_example(self):
        timed = example_73()
        self.assertIsNone(course_in(timed, LATE_FIRST))
        ring = ring_in(timed, LATE_FIRST)
        numbers = {(one, other): number for one, other, number in bounds_of(timed, LATE_FIRST)}
        self.assertLess(sum(numbers[ring[at - 1], ring[at]] for at in range(len(ring))), 0)
        self.assertIsNone(way_in(timed, LATE_FIRST, ("a", (1,)), ("s", (2,))))
        self.assertIsNone(ring_in(order=MEETING, timed=timed))
        course = course_in(order=MEETING, timed=timed)
        self.assertTrue(is_course(timed, course))
        self.assertEqual(list(course[1]), sorted(course[1]))
        self.assertEqual(way_in(timed, MEETING, ("s", [1]), ["a", ()]), (1, [("s", (1,)), ("a", (2,)), ("a", ())]))
        self.assertEqual(way_in(timed, MEETING, ("s", (1,)), ("s", (1,))), (0, [("s", (1,))]))
        self.assertEqual(way_in(other=("s", (1,)), one=("s", (2,)), order=MEETING, timed=timed)[0], -1)

    def test_just_one_holds(self):
        both = [0, 0]
        for seed in range(250):
            timed = made_up_timed(seed, tasks=2 + seed % 3, meetings=4)
            fates = all_fates(timed)
            for order in (plain_lawful(timed, 200) or [])[:12]:
                course, ring = course_in(timed, order), ring_in(timed, order)
                numbers = {(one, other): number for one, other, number in bounds_of(timed, order)}
                both[course is None] += 1
                if course is None:
                    self.assertLess(sum(numbers[ring[at - 1], ring[at]] for at in range(len(ring))), 0)
                else:
                    self.assertIsNone(ring)
                    self.assertTrue(is_course(timed, course) and course[0] in fates)
                    self.check_ways(timed, order, numbers, course)
        self.assertGreater(min(both), 100)

    def check_ways(self, timed, order, numbers, course):
        """The least sums of all ways, by trying each pair between as often as there are pairs."""
        pairs = list(course[1])
        least = {(one, other): 0 if one == other else numbers.get((one, other), 10 ** 9)
                 for one in pairs for other in pairs}
        for between in pairs:
            for one in pairs:
                for other in pairs:
                    least[one, other] = min(least[one, other], least[one, between] + least[between, other])
        for one, other in ((pairs[0], pairs[-1]), (pairs[-1], pairs[0]), (pairs[len(pairs) // 2], pairs[1 % len(pairs)])):
            number, way = way_in(timed, order, one, other)
            self.assertEqual((number, way[0], way[-1]), (least[one, other], one, other))
            self.assertEqual(sum(numbers[way[at], way[at + 1]] for at in range(len(way) - 1)), number)

    def test_errors(self):
        timed = example_73()
        wrong = any_objects() + [LATE_FIRST[:3], MEETING[:1]]
        for thing in wrong:
            for work in (lambda order: bounds_of(timed, order), lambda order: course_in(timed, order),
                         lambda order: ring_in(timed, order), lambda order: way_in(timed, order, None, None)):
                error = raised(work, thing)
                self.assertIsInstance(error, BadCourse)
                self.assertIs(error.thing, thing)
        pairs = any_objects() + [("a", (1, 0, 0)), ("a", (5,)), ("z", ()), ("a", (True,)), ["a", (1,), 0], ("a", None)]
        for order in (MEETING, MEETING[::-1]):
            for pair in pairs:
                for parts in ((pair, None), (("a", (1,)), pair)):
                    error = raised(way_in, timed, order, *parts)
                    self.assertIsInstance(error, NoComing)
                    self.assertIs(error.pair, pair)
        # Who is late does not come behind its meeting; and NoComing is told though no course happens so.
        self.assertIsInstance(raised(way_in, timed, LATE_FIRST, ("a", (1,)), ("z", ())), NoComing)
        self.assertIsNone(raised(way_in, timed, LATE_FIRST, ("a", (1, 0, 0)), ("a", (1,))))


if __name__ == "__main__":
    unittest.main()
