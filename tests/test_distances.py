"""Points 71 to 73: distances between notes, limits of waiting."""

import unittest

from meettasks.distances import course_at, distances
from meettasks.errors import BadNumber, NoDeed, NoNote, NoTask
from meettasks.limits import idle_limits, least_limit
from meettasks.timed import Timed, is_course
from tests.objects import any_objects, raised
from tests.test_timed import deeds_of
from tests.timedmakers import deed_of, example_73, made_up_timed, plain_courses


def notes_of(timed):
    """By words the pairs at which they are noted."""
    return {deed_of(timed.tasks(), *pair)[1]: pair for pair in deeds_of(timed)
            if deed_of(timed.tasks(), *pair)[0] == "note"}


def with_limit(body, path, limit):
    """A body with another limit at a path."""
    body = list(body)
    deed = list(body[path[0]])
    if len(path) == 1:
        deed[3 if deed[0] == "call" else 2] = limit
    else:
        deed[-1] = with_limit(deed[-1], path[2:], limit)
    body[path[0]] = tuple(deed)
    return tuple(body)


def is_ever_late(timed, pair, limit, most):
    """Whether a deed with a limit is late in some course; None if there are too many."""
    task, path = pair
    courses = plain_courses(Timed({**timed.tasks(), task: with_limit(timed.tasks()[task], path, limit)}), most)
    if courses is None:
        return None
    return any(row == (task, path, ("late",)) for fates, _ in courses for row in fates)


def joined(numbers):
    found = []
    for number in sorted(numbers):
        if found and found[-1][1] + 1 == number:
            found[-1] = (found[-1][0], number)
        else:
            found.append((number, number))
    return found


def meetings_of(timed):
    return [pair for pair in deeds_of(timed) if deed_of(timed.tasks(), *pair)[0] in ("call", "take")]


class DistancesTest(unittest.TestCase):

    def test_example(self):
        timed = example_73()
        self.assertEqual(distances(timed, "back", "free"), [(0, 0), (2, 3)])
        self.assertEqual(distances(other="back", one="free", timed=timed), [(-3, -2), (0, 0)])
        self.assertEqual(distances(timed, "back", "back"), [(0, 0)])
        self.assertEqual(distances(timed, "gone", "back"), [(0, 0)])
        for number in range(-5, 6):
            course = course_at(timed, "back", "free", number)
            self.assertEqual(course is not None, number in (0, 2, 3))
            if course is not None:
                self.assertTrue(is_course(timed, course))
                self.assertEqual(course[1]["s", (2,)] - course[1]["a", (2,)], number)
        self.assertEqual(course_at(number=2, other="free", one="back", timed=timed), course_at(timed, "back", "free", 2))
        distances(timed, "back", "free").clear()
        course_at(timed, "back", "free", 2)[1].clear()
        self.assertEqual(distances(timed, "back", "free"), [(0, 0), (2, 3)])
        self.assertTrue(is_course(timed, course_at(timed, "back", "free", 2)))

    def test_never_both(self):
        timed = Timed({"a": [("call", "b", "e", None, [("note", "x")]), ("note", "y")], "b": [("note", "z")]})
        self.assertEqual([distances(timed, one, "z") for one in "xyz"], [[], [], [(0, 0)]])
        self.assertIsNone(course_at(timed, "x", "x", 0))
        self.assertIsNotNone(course_at(timed, "z", "z", 0))
        self.assertIsNone(course_at(timed, "z", "z", 1))

    def test_whole_numbers_side_by_side_are_one(self):
        # Who is late comes one later than who meets at the latest.
        timed = Timed({"a": [("call", "b", "e", 2, []), ("note", "x")],
                       "b": [("work", 0, 9), ("take", "e", 0, 1, 1, []), ("note", "y")], "c": [("note", "z")]})
        self.assertEqual(distances(timed, "z", "x"), [(1, 3)])

    def test_all_courses(self):
        many = 0
        for seed in range(220):
            timed = made_up_timed(seed, tasks=2 + seed % 2, meetings=4)
            courses = plain_courses(timed, 1500)
            words = notes_of(timed)
            if courses is None or len(words) < 2:
                continue
            many += 1
            for one in list(words)[:3]:
                for other in list(words)[-3:]:
                    found = {dict(row)[words[other]] - dict(row)[words[one]] for _, row in courses
                             if words[one] in dict(row) and words[other] in dict(row)}
                    self.assertEqual(distances(timed, one, other), joined(found))
                    for number in range(min(found, default=0) - 1, max(found, default=0) + 2):
                        course = course_at(timed, one, other, number)
                        self.assertEqual(course is not None, number in found)
                        if course is not None:
                            self.assertIn((course[0], tuple(course[1].items())), courses)
                            self.assertEqual(course[1][words[other]] - course[1][words[one]], number)
        self.assertGreater(many, 50)

    def test_as_many_times_as_great(self):
        for seed in range(60):
            little, great = made_up_timed(seed), made_up_timed(seed, scale=10 ** 8)
            words = list(notes_of(little))[:3]
            for one in words:
                for other in words:
                    low = [distances(timed, one, other)[:1] for timed in (little, great)]
                    high = [distances(timed, one, other)[-1:] for timed in (little, great)]
                    self.assertEqual([row[0] * 10 ** 8 for row in low[0]], [row[0] for row in low[1]])
                    self.assertEqual([row[1] * 10 ** 8 for row in high[0]], [row[1] for row in high[1]])

    def test_errors(self):
        timed = example_73()
        for thing in any_objects() + ["work", "call"]:
            for parts in ((thing, None), ("back", thing)):
                for error in (raised(distances, timed, *parts), raised(course_at, timed, *parts, None)):
                    self.assertIsInstance(error, NoNote)
                    self.assertIs(error.word, thing)
            error = raised(course_at, timed, "back", "free", thing)
            if isinstance(thing, bool) or not isinstance(thing, int):
                self.assertIsInstance(error, BadNumber)
                self.assertIs(error.number, thing)
            else:
                self.assertIsNone(error)


class LimitsTest(unittest.TestCase):

    def test_example(self):
        timed = example_73()
        self.assertEqual(least_limit(timed, "a", (1,)), 5)
        self.assertEqual(least_limit(path=[1], task="a", timed=timed), 5)
        # If a is late nobody comes to s any more.
        self.assertIsNone(least_limit(timed, "s", (1,)))
        self.assertEqual(idle_limits(timed=timed), [])
        timed = Timed({"a": [("call", "b", "e", 1, [])], "b": [("take", "e", 2, 0, 0, [])]})
        self.assertEqual([least_limit(timed, "a", (0,)), least_limit(timed, "b", (0,))], [1, 1])
        self.assertEqual(idle_limits(timed), [("a", (0,)), ("b", (0,))])

    def test_who_never_waits(self):
        timed = Timed({"a": [("work", 3, 3), ("call", "b", "e", 0, [("call", "b", "e", 7, [])])],
                       "b": [("take", "e", None, 0, 0, [])], "c": [("take", "e", 5, 0, 0, [])]})
        self.assertEqual(least_limit(timed, "a", (1,)), 0)
        self.assertEqual(least_limit(timed, "a", (1, 0, 0)), 0)
        self.assertIsNone(least_limit(timed, "c", (0,)))
        self.assertEqual(least_limit(timed, "b", (0,)), 4)
        self.assertEqual(idle_limits(timed), [("a", (1,)), ("a", (1, 0, 0))])
        idle_limits(timed).clear()
        self.assertEqual(len(idle_limits(timed)), 2)

    def test_by_trying(self):
        sorts = {}
        for seed in range(120):
            timed = made_up_timed(seed, tasks=2 + seed % 2, meetings=4)
            for pair in meetings_of(timed):
                limit = least_limit(timed, *pair)
                tries = [(0, True), (3, True), (12, True)] if limit is None else [(limit, False), (limit - 1, True)]
                for number, is_late in tries:
                    late = is_ever_late(timed, pair, number, 1500) if number >= 0 else is_late
                    if late is not None:
                        self.assertEqual(late, is_late)
                        sorts[limit] = sorts.get(limit, 0) + 1
        self.assertGreater(min(sorts[limit] for limit in (None, 0, 1, 2, 3)), 10)

    def test_idle_by_all_courses(self):
        many = 0
        for seed in range(300):
            timed = made_up_timed(seed, tasks=2 + seed % 2, meetings=5)
            courses = plain_courses(timed, 1500)
            if courses is not None:
                many += 1
                late = {row[:2] for fates, _ in courses for row in fates if row[2] == ("late",)}
                limits = {pair: deed_of(timed.tasks(), *pair) for pair in meetings_of(timed)}
                self.assertEqual(idle_limits(timed), sorted(
                    pair for pair, deed in limits.items()
                    if pair not in late and deed[3 if deed[0] == "call" else 2] is not None))
        self.assertGreater(many, 150)

    def test_errors(self):
        timed = example_73()
        for thing in any_objects():
            error = raised(least_limit, timed, thing, None)
            if thing != "a":
                self.assertIsInstance(error, NoTask)
                self.assertIs(error.task, thing)
            error = raised(least_limit, timed, "s", thing)
            self.assertIsInstance(error, NoDeed)
            self.assertIs(error.thing, thing)
        for path in ((0,), (2,), (1, 0, 0), (), (3,), (True,), (1, 1, 0), (-2,)):
            error = raised(least_limit, timed, "a", path)
            self.assertIsInstance(error, NoDeed)
            self.assertIs(error.thing, path)

    def test_at_the_limits(self):
        # Up to two thousand lawful lists.
        for seed in (514, 1350, 1622):
            timed = made_up_timed(seed, tasks=4, meetings=8)
            words = list(notes_of(timed))
            if len(words) > 1:
                for low, high in distances(timed, words[0], words[-1]):
                    self.assertTrue(is_course(timed, course_at(timed, words[0], words[-1], high)))
                    self.assertLessEqual(low, high)
            self.assertEqual(len([least_limit(timed, *pair) for pair in meetings_of(timed)]), len(meetings_of(timed)))
            idle_limits(timed)


if __name__ == "__main__":
    unittest.main()
