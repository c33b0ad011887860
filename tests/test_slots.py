"""Points 80 and 81: tasks together, and as few slots as can be for them."""

import random
import unittest
from itertools import combinations

from meettasks.errors import NoTask
from meettasks.programs import Program
from meettasks.slots import are_together, most_together, slots
from tests.makers import count_stands, made_up, nest
from tests.objects import any_objects, raised
from tests.plain import world_of



def example_81_slots():
    return Program(nest({"a": nest({"d": []}), "b": []}) + nest({"c": []}))


def calm_body(luck, words, deep):
    """A body of notes, picks and nests that begins with a note."""
    found = [("note", "x")]
    for _ in range(luck.randint(0, 2)):
        kind = luck.choice(["note", "pick", "nest", "nest"])
        if kind == "nest" and deep and len(words) > 1:
            tasks = {words.pop(): None for _ in range(luck.randint(1, 2)) if words}
            found.append(("nest", {task: calm_body(luck, words, deep - 1) for task in tasks},
                          calm_body(luck, words, deep - 1)))
        elif kind == "pick":
            found.append(("pick", [calm_body(luck, words, deep - 1), [("note", "y")]]))
        else:
            found.append(("note", "z"))
    return found


def nests_above(program, task):
    """By tasks the paths of the nests by which a task, or who began it, begins."""
    found = []
    while program.master(task) is not None:
        task, path = program.master(task)
        found.append((task, path))
    return found


def plain_together(program, one, other):
    for task, path in nests_above(program, one):
        for master, way in nests_above(program, other):
            inside = path[:len(way)] == way or way[:len(path)] == path
            if task == master and not inside:
                return False
    return True


class SlotsTest(unittest.TestCase):

    def test_example(self):
        program = example_81_slots()
        told = slots(program=program)
        self.assertEqual([list(told), sorted(set(told.values()))], [["main", "a", "d", "b", "c"], [0, 1, 2, 3]])
        self.assertEqual(most_together(program=program), ["main", "a", "d", "b"])
        self.assertIs(are_together(program, "a", "c"), False)
        self.assertIs(are_together(program=program, one="d", other="c"), False)
        self.assertIs(are_together(program, "main", "c"), True)
        self.assertIs(are_together(program, "c", "c"), True)
        self.assertIs(are_together(program, "d", "a"), True)
        slots(program).clear()
        most_together(program).clear()
        self.assertEqual([len(slots(program)), len(most_together(program))], [5, 4])
        self.assertEqual([slots(Program([])), most_together(Program([]))], [{"main": 0}, ["main"]])

    def test_nests_in_bodies(self):
        program = Program(nest({"a": []}, nest({"b": []}) + nest({"c": [], "d": []})) + [
            ("pick", [nest({"e": []}), nest({"f": []}, [("if", "x", nest({"g": []}), [])])])])
        self.assertEqual(most_together(program), ["main", "a", "c", "d"])
        self.assertEqual(sorted(set(slots(program).values())), [0, 1, 2, 3])
        self.assertEqual([are_together(program, one, other) for one, other in
                          (("a", "b"), ("b", "c"), ("c", "d"), ("a", "e"), ("e", "f"), ("f", "g"), ("e", "g"))],
                         [True, False, True, False, False, True, False])

    def check(self, program):
        tasks = program.tasks()
        told, most = slots(program), most_together(program)
        for one in tasks:
            for other in tasks:
                together = are_together(program, one, other)
                self.assertEqual(together, plain_together(program, one, other))
                if together and one != other:
                    self.assertNotEqual(told[one], told[other])
        self.assertEqual([list(told), sorted(set(told.values()))], [tasks, list(range(len(most)))])
        self.assertEqual(most, [task for task in tasks if task in most])
        self.assertTrue(all(are_together(program, one, other) for one, other in combinations(most, 2)))
        return most

    def test_many_programs(self):
        greatest = {}
        for seed in range(400):
            program = made_up(seed, many=2 + seed % 3)
            most = self.check(program)
            if len(program.tasks()) <= 8:
                self.assertFalse(any(all(are_together(program, one, other) for one, other in combinations(lot, 2))
                                     for lot in combinations(program.tasks(), len(most) + 1)))
            greatest[len(program.tasks()) - len(most)] = True
        for seed in range(200):
            luck = random.Random(seed)
            program = Program(calm_body(luck, list("abcdefg"), 3))
            most = self.check(program)
            greatest[len(program.tasks()) - len(most)] = True
            self.assertFalse(any(all(are_together(program, one, other) for one, other in combinations(lot, 2))
                                 for lot in combinations(program.tasks(), len(most) + 1)))
        self.assertGreater(len(greatest), 3)

    def test_who_is_there_at_once(self):
        many = 0
        for seed in range(600):
            program = Program(calm_body(random.Random(seed), list("abcde"), 3))
            if len(program.tasks()) < 3 or count_stands(program, 80) > 80:
                continue
            many += 1
            most, seen = most_together(program), []
            for run in world_of(program).runs:
                there = [task for task in program.tasks() if run.how(task) not in ("absent", "ended")]
                self.assertTrue(all(are_together(program, one, other) for one, other in combinations(there, 2)))
                seen.append(set(most) <= set(there))
            self.assertTrue(any(seen))
        self.assertGreater(many, 20)
        for seed in range(150):
            program = made_up(seed, many=2, most=2)
            for run in world_of(program).runs if count_stands(program, 80) <= 80 else []:
                there = [task for task in program.tasks() if run.how(task) not in ("absent", "ended")]
                self.assertTrue(all(are_together(program, one, other) for one, other in combinations(there, 2)))

    def test_errors(self):
        program = example_81_slots()
        for thing in any_objects():
            if thing not in program.tasks():
                for parts in ((thing, None), ("a", thing)):
                    error = raised(are_together, program, *parts)
                    self.assertIsInstance(error, NoTask)
                    self.assertIs(error.task, thing)


if __name__ == "__main__":
    unittest.main()
