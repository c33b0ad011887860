"""Points 66 to 68: tasks that take time, courses, fates."""

import random
import unittest

from meettasks.errors import BadFates, BadTimed, NoDeed, NoTask
from meettasks.fates import all_fates, come_to, course_with, is_late
from meettasks.timed import Timed, is_course
from tests.objects import any_objects, raised
from tests.timedmakers import example_73, made_up_timed, plain_courses

LATE = (("a", (1,), ("late",)), ("s", (1,), ("late",)))
MEET = (("a", (1,), ("meets", "s", (1,))), ("s", (1,), ("meets", "a", (1,))))
MOMENTS = {("a", (0,)): 0, ("a", (1,)): 4, ("a", (2,)): 6, ("a", ()): 6,
           ("s", (0,)): 0, ("s", (1,)): 5, ("s", (2,)): 6, ("s", ()): 6}


def deeds_of(timed):
    """All pairs (task, path) of deeds."""
    found = []

    def add(task, body, path):
        for number, deed in enumerate(body):
            found.append((task, path + (number,)))
            if deed[0] in ("call", "take"):
                add(task, deed[-1], path + (number, 0))

    for task, body in timed.tasks().items():
        add(task, body, ())
    return found


class TimedTest(unittest.TestCase):

    def test_ordinary(self):
        timed = example_73()
        self.assertEqual(timed.tasks(), {
            "a": (("work", 2, 5), ("call", "s", "e", 3, (("note", "gone"),)), ("note", "back")),
            "s": (("work", 4, 6), ("take", "e", 2, 1, 1, ()), ("note", "free"))})
        timed.tasks().clear()
        self.assertEqual(list(timed.tasks()), ["a", "s"])
        as_lists = Timed(tasks={"s": (["work", 4, 6], ["take", "e", 2, 1, 1, ()], ["note", "free"]),
                                "a": [["work", 2, 5], ["call", "s", "e", 3, [["note", "gone"]]], ["note", "back"]]})
        self.assertEqual([as_lists, list(as_lists.tasks())], [timed, ["a", "s"]])
        self.assertNotEqual(Timed({"a": []}), Timed({"b": []}))
        self.assertNotEqual(Timed({"a": [("work", 1, 2)]}), Timed({"a": [("work", 1, 3)]}))
        for thing in any_objects() + [timed.tasks()]:
            self.assertFalse(timed == thing)

    def test_errors(self):
        for thing in any_objects():
            error = raised(Timed, thing)
            self.assertIsInstance(error, BadTimed)
            if not isinstance(thing, dict) or not thing:
                self.assertEqual((error.task, error.path), (None, ()))
        for key in (None, 3, "", "B", "longwordx", ("a",)):
            error = raised(Timed, {"a": ["no deed"], key: [], "c": None})
            self.assertEqual((error.task, error.path), (key, ()))
        error = raised(Timed, {"a": ["no deed"], "c": None})
        self.assertEqual((error.task, error.path), ("c", ()))
        note, call = ("note", "x"), ("call", "b", "e", None, [])
        bad = any_objects() + [
            ("note",), ("note", "X"), ("note", "x", 1), ("work", 1), ("work", 2, 1), ("work", -1, 1), ("work", 0, True),
            ("work", 0, None), ("work", 0, 1, 2), ("call", "b", "e", None), ("call", "b", "e", -1, []),
            ("call", "b", "e", True, []), ("call", "b", 1, 1, []), ("call", "b", "e", 1, None),
            ("call", "z", "e", 1, []), ("call", ["b"], "e", 1, []), ("call", {}, "e", 1, []),
            ("call", "a", "e", 1, []), ("call", "b", "e", 1, [], []), ("take", "e", 1, 1, 1), ("take", "e", 1, 2, 1, []),
            ("take", "e", -1, 1, 1, []), ("take", "e", 1, 1, 1, None), ("take", "E", 1, 1, 1, []),
            ("take", "e", None, None, 1, []), ("take", "e", 1, 1, 1, [], 0), ("wait", 1, 2), ("nothing",), note]
        for deed in bad:
            error = raised(Timed, {"b": [note], "a": [call, ("take", "e", 1, 1, 1, [("work", 0, 0), deed, "bad"])]})
            self.assertIsInstance(error, BadTimed)
            self.assertEqual((error.task, error.path), ("a", (1, 0, 1)))
        # A deed ahead of those in its own; task by task as passed.
        error = raised(Timed, {"b": [("call", "z", "e", 1, ["bad"])], "a": ["bad"]})
        self.assertEqual((error.task, error.path), ("b", (0,)))
        error = raised(Timed, {"b": [("call", "a", "e", 1, [note, note])], "a": [note]})
        self.assertEqual((error.task, error.path), ("b", (0, 0, 1)))
        error = raised(Timed, {"b": [("call", "a", "e", 1, [note])], "a": [note]})
        self.assertEqual((error.task, error.path), ("a", (0,)))
        self.assertIsNone(raised(Timed, {"a": [("call", "b", "nobody", 0, ())], "b": ()}))


class CourseTest(unittest.TestCase):

    def test_example(self):
        timed = example_73()
        self.assertTrue(is_course(timed, (MEET, MOMENTS)))
        self.assertTrue(is_course(thing=[[["a", [1], ["meets", "s", [1]]], ["s", [1], ["meets", "a", [1]]]],
                                         dict(reversed(list(MOMENTS.items())))], timed=timed))
        for pair, number in (((), 0), (("a", (0,)), 1), (("a", (1,)), 1), (("a", (1,)), 6), (("a", (2,)), 7),
                             (("s", ()), 7), (("s", (1,)), 7), (("a", (1,)), True), (("a", (1,)), None)):
            self.assertFalse(is_course(timed, (MEET, {**MOMENTS, pair: number})))
        for pair in MOMENTS:
            self.assertFalse(is_course(timed, (MEET, {key: MOMENTS[key] for key in MOMENTS if key != pair})))
        for key in ("x", ("a",), ("a", (0,), 1), ("a", 0), ("a", (0, 0)), ("z", ()), (None, ()), 3, ("a", None)):
            self.assertIs(is_course(timed, (MEET, {**MOMENTS, key: 0})), False)
        for fates in (MEET[::-1], MEET[:1], MEET + MEET[1:], LATE, (MEET[0], LATE[1]), MEET + (("a", (2,), ("late",)),),
                      (("a", (1,), ("meets", "s", (0,))), MEET[1]), (("a", (True,), ("late",)), LATE[1]),
                      (("a", (1,), ("stays",)), LATE[1]), (("a", (1,), ("late", 1)), LATE[1]), None, (None,)):
            self.assertFalse(is_course(timed, (fates, MOMENTS)))
        for thing in any_objects() + [(MEET,), (MEET, MOMENTS, 0), (MEET, list(MOMENTS.items())), MEET]:
            self.assertIs(is_course(timed, thing), False)
        false = {(task, tuple(bool(number) if number < 2 else number for number in path)): MOMENTS[task, path]
                 for task, path in MOMENTS}
        self.assertEqual(false, MOMENTS)
        self.assertFalse(is_course(timed, (MEET, false)))

    def test_fates_that_are_none(self):
        timed = example_73()
        for fate in (None, "late", (), (1,), 3, ("meets", 1, (1,)), ("meets", "s", None), ("meets", "s"),
                     ("meets", "s", (1,), 0), ("meets", "s", "1"), [["late"]], {"late": 1}, ("meets", None, (1,))):
            self.assertIs(is_course(timed, ((("a", (1,), fate), MEET[1]), MOMENTS)), False)
            self.assertIsInstance(raised(course_with, timed, (("a", (1,), fate), MEET[1])), BadFates)
        for row in (None, (), ("a", (1,)), (1, (1,), ("late",)), ("a", None, ("late",)), ("a", (1,), ("late",), 0)):
            self.assertIs(is_course(timed, ((row, MEET[1]), MOMENTS)), False)
            self.assertIsInstance(raised(course_with, timed, (row, MEET[1])), BadFates)

    def test_who_has_a_limit_does_not_stay(self):
        alone = {("a", (0,)): 0, ("b", ()): 0}
        for limit, fates in ((None, ("stays",)), (3, ("late",))):
            timed = Timed({"a": [("call", "b", "e", limit, [])], "b": []})
            for fate in (("stays",), ("late",)):
                for moments in (alone, {**alone, ("a", ()): 3}, {**alone, ("a", ()): 0}):
                    told = is_course(timed, ((("a", (0,), fate),), moments))
                    right = moments == alone if limit is None else moments.get(("a", ())) == 3
                    self.assertEqual(told, fate == fates and right)

    def test_entries_called_like_tasks(self):
        # Two who call, or two who take, never meet, whatever entries are called.
        timed = Timed({"a": [("call", "b", "c", None, [])], "b": [("call", "c", "e", None, [])], "c": []})
        self.assertEqual(all_fates(timed), [(("a", (0,), ("stays",)), ("b", (0,), ("stays",)))])
        timed = Timed({"a": [("take", "b", None, 0, 0, [])], "b": [("take", "a", None, 0, 0, [])]})
        self.assertEqual(all_fates(timed), [(("a", (0,), ("stays",)), ("b", (0,), ("stays",)))])

    def test_at_the_very_moment(self):
        # Whoever waited as long as may be may still be met by who comes then; also with limit 0.
        timed = Timed({"a": [("call", "s", "e", 2, [])], "s": [("work", 2, 2), ("take", "e", 0, 0, 0, [])]})
        late = (("a", (0,), ("late",)), ("s", (1,), ("late",)))
        meet = (("a", (0,), ("meets", "s", (1,))), ("s", (1,), ("meets", "a", (0,))))
        self.assertEqual(all_fates(timed), [late, meet])
        moments = {("a", (0,)): 0, ("a", ()): 2, ("s", (0,)): 0, ("s", (1,)): 2, ("s", ()): 2}
        self.assertTrue(is_course(timed, (late, moments)))
        self.assertTrue(is_course(timed, (meet, moments)))
        # Who is there at a coming is met: nobody is late then.
        timed = Timed({"a": [("call", "s", "e", None, [])], "s": [("work", 1, 1), ("take", "e", 0, 1, 1, [])]})
        self.assertEqual(all_fates(timed), [(("a", (0,), ("meets", "s", (1,))), ("s", (1,), ("meets", "a", (0,))))])

    def test_rows_are_kept(self):
        tasks = {"a": [("call", "s", "e", None, [])], "b": [("work", 1, 1), ("call", "s", "e", None, [])],
                 "s": [("work", 2, 2), ("take", "e", None, 0, 0, [])]}
        self.assertEqual(len(all_fates(Timed(tasks))), 1)
        self.assertEqual(is_late(Timed(tasks), "b", (1,)), "never")
        tasks["b"] = tasks["b"][1:]
        self.assertEqual([row[1][2] for row in all_fates(Timed(tasks))], [("stays",), ("meets", "s", (1,))])

    def test_by_moments(self):
        checked, wrong, many = 0, 0, set()
        for seed in range(250):
            timed = made_up_timed(seed, tasks=2 + seed % 2, meetings=4)
            courses = plain_courses(timed, 1500)
            if courses is None or len(deeds_of(timed)) < 3:
                continue
            checked += 1
            many.add(len({fates for fates, _ in courses}))
            self.check_fates(timed, courses)
            luck = random.Random(seed)
            for fates, items in luck.sample(sorted(courses), min(12, len(courses))):
                moments = dict(items)
                self.assertTrue(is_course(timed, (fates, moments)))
                for pair in moments:
                    for by in (-1, 1):
                        other = {**moments, pair: moments[pair] + by}
                        told = is_course(timed, (fates, other))
                        self.assertEqual(told, (fates, tuple(sorted(other.items()))) in courses)
                        wrong += not told
                for others in {one for one, _ in courses}:
                    self.assertEqual(is_course(timed, (others, moments)), (others, items) in courses)
        self.assertGreater(checked, 100)
        self.assertGreater(wrong, 1000)
        self.assertLessEqual({1, 2, 3}, many)

    def check_fates(self, timed, courses):
        told = all_fates(timed)
        self.assertEqual(told, sorted({fates for fates, _ in courses}))
        for fates in told:
            course = course_with(timed, fates)
            self.assertEqual(course[0], fates)
            self.assertIn((fates, tuple(sorted(course[1].items()))), courses)
        for task, path in deeds_of(timed):
            truths = {any(pair == (task, path) for pair, _ in items) for _, items in courses}
            expected = "open" if len(truths) == 2 else "sure" if True in truths else "never"
            self.assertEqual(come_to(timed, task, path), expected)
            fate = {row[2] == ("late",) for fates, _ in courses for row in fates if row[:2] == (task, path)}
            if fate:
                expected = "open" if len(fate) == 2 else "sure" if True in fate else "never"
                self.assertEqual(is_late(timed, task, path), expected)
            elif raised(is_late, timed, task, path) is None:
                self.assertIsNone(is_late(timed, task, path))


class FatesTest(unittest.TestCase):

    def test_example(self):
        timed = example_73()
        self.assertEqual(all_fates(timed=timed), [LATE, MEET])
        self.assertEqual(is_late(timed, "a", (1,)), "open")
        self.assertEqual(is_late(path=[1], task="s", timed=timed), "open")
        self.assertEqual([come_to(timed, "a", (1, 0, 0)), come_to(timed, "a", (2,)), come_to(timed, "s", [0])],
                         ["open", "sure", "sure"])
        as_lists = [["a", [1], ["late"]], ["s", [1], ["late"]]]
        course = course_with(fates=as_lists, timed=timed)
        self.assertEqual(course, course_with(timed, LATE))
        self.assertTrue(is_course(timed, course))
        course[1].clear()
        all_fates(timed).clear()
        self.assertTrue(is_course(timed, course_with(timed, LATE)))
        self.assertEqual(list(course_with(timed, LATE)[1]), sorted(course_with(timed, LATE)[1]))

    def test_never(self):
        timed = Timed({"a": [("call", "b", "e", None, [("note", "x")]), ("call", "b", "e", 1, [])], "b": []})
        self.assertEqual(all_fates(timed), [(("a", (0,), ("stays",)),)])
        self.assertEqual([come_to(timed, "a", (0, 0, 0)), come_to(timed, "a", (1,))], ["never", "never"])
        self.assertEqual([is_late(timed, "a", (0,)), is_late(timed, "a", (1,))], ["never", None])
        self.assertEqual([all_fates(Timed({"a": []})), course_with(Timed({"a": []}), [])],
                         [[()], ((), {("a", ()): 0})])
        timed = Timed({"a": [("call", "b", "e", 0, [])], "b": [("work", 1, 2), ("take", "e", 4, 0, 0, [])]})
        self.assertEqual([is_late(timed, "a", (0,)), is_late(timed, "b", (1,))], ["sure", "sure"])

    def test_as_many_times_as_great(self):
        for seed in range(150):
            little, great = made_up_timed(seed), made_up_timed(seed, scale=10 ** 8)
            if len(deeds_of(little)) <= 9:
                self.assertEqual(all_fates(little), all_fates(great))
                for fates in all_fates(great):
                    self.assertTrue(is_course(great, course_with(great, fates)))
                for task, path in deeds_of(little):
                    self.assertEqual(come_to(little, task, path), come_to(great, task, path))

    def test_errors(self):
        timed = example_73()
        for thing in any_objects():
            for work in (come_to, is_late):
                error = raised(work, timed, thing, None)
                if thing != "a":
                    self.assertIsInstance(error, NoTask)
                    self.assertIs(error.task, thing)
                error = raised(work, timed, "a", thing)
                if thing != (0,) and thing != [0]:
                    self.assertIsInstance(error, NoDeed)
                    self.assertIs(error.thing, thing)
            error = raised(course_with, timed, thing)
            self.assertIsInstance(error, BadFates)
            self.assertIs(error.thing, thing)
        for path in ((), (3,), (1, 0), (1, 0, 1), (1, 1, 0), (False,), (0, 0, 0), (-1,)):
            for work in (come_to, is_late):
                self.assertIsInstance(raised(work, timed, "a", path), NoDeed)
        for path in ((0,), (2,), (1, 0, 0)):
            error = raised(is_late, timed, "a", path)
            self.assertIsInstance(error, NoDeed)
            self.assertIs(error.thing, path)
        for fates in ((), MEET[::-1], MEET[:1], (MEET[0], LATE[1]), (("a", (True,), ("late",)), LATE[1]), None):
            error = raised(course_with, timed, fates)
            self.assertIsInstance(error, BadFates)
            self.assertIs(error.thing, fates)

    def test_at_the_limits(self):
        # Four tasks, eight calls and takes, great numbers.
        big = 10 ** 9
        tasks = {"a": [("work", 0, big), ("call", "d", "e", big, []), ("call", "d", "f", 5, []), ("note", "x")],
                 "b": [("work", big, big), ("call", "d", "e", None, [])],
                 "c": [("call", "d", "f", 0, [("call", "d", "f", big, [])])],
                 "d": [("take", "e", big, 1, big, []), ("take", "f", None, 0, 0, []), ("take", "e", 3, 0, big, [])]}
        timed = Timed(tasks)
        self.assertEqual(len([pair for pair in deeds_of(timed)]), 11)
        found = all_fates(timed)
        self.assertGreater(len(found), 5)
        for fates in found:
            self.assertTrue(is_course(timed, course_with(timed, fates)))


if __name__ == "__main__":
    unittest.main()
