"""Point 79: rows that come, shorter code, flags that have to be kept."""

import unittest

from meettasks.codes import Code
from meettasks.compiling import compiled
from meettasks.errors import NoRow, NoTask
from meettasks.papers import apart_by
from meettasks.programs import Program
from meettasks.shorter import needed_flags, rows_coming, short_code
from tests.codemakers import OVER, all_codes, example_81
from tests.makers import nest
from tests.objects import any_objects, raised
from tests.plaincode import Machine, MachineWorld

NOTE = (("note", "x"), False)


def off(*row):
    return row, False


def on(*row):
    return row, True


def rows_by_machine(world):
    """The pairs (task, row) to which tasks come at all."""
    found = set(world.runs[0].came)
    for edges in world.edges:
        for edge in edges:
            found.update(edge[3])
    return sorted(found)


def asked_by(row):
    return [row[1]] if row[0] == "unless" else [arm[0] for arm in row[1] if arm[0]] if row[0] == "offer" else []


def lives_behind(code, lives, came, found):
    """By tasks the rows that it came to in this life, each with the flags set since; flags asked are found."""
    lives = dict(lives)
    for task, number in came:
        rows = code.rows(task)
        visits = lives.get(task, ())
        if visits and rows[visits[-1][0]][0][0] == "set":
            flag = rows[visits[-1][0]][0][1]
            visits = tuple((row, flags | {flag}) for row, flags in visits[:-1]) + visits[-1:]
        for row, flags in visits:
            for flag in asked_by(rows[number][0]):
                if flag not in flags:
                    found.setdefault((task, row), set()).add(flag)
        lives[task] = visits + ((number, frozenset()),)
    return lives


def flags_by_orders(code, longest, most):
    """By pairs (task, row) the flags needed, by all orders of at most so many steps; None if they are too many."""
    machine = Machine(code)
    found = {}
    coming, many = [(machine, lives_behind(code, {}, machine.came, found))], 0
    while coming:
        run, lives = coming.pop()
        many += 1
        if many > most:
            return None
        for step in run.let() if len(run.steps) < longest else []:
            further = run.done(step)
            begun = run.row(step[0])[0][1] if step[1] == "begin" else []
            left = {task: lives[task] for task in lives if task not in begun}
            coming.append((further, lives_behind(code, left, further.came[len(run.came):], found)))
    return found


class RowsComingTest(unittest.TestCase):

    def test_ordinary(self):
        code = example_81()
        every = [(task, number) for task in code.tasks() for number in range(len(code.rows(task)))]
        self.assertEqual(rows_coming(code=code), sorted(every))
        code = Code({"main": [on("set", "f", True), on("unless", "f", 3), on("go", 4), NOTE, on("over")], "z": [OVER]})
        self.assertEqual(rows_coming(code), [("main", 0), ("main", 1), ("main", 2), ("main", 4)])
        rows_coming(code).clear()
        self.assertEqual(len(rows_coming(code)), 4)

    def test_against_an_own_machine(self):
        many = 0
        for code in all_codes(range(500)):
            world = MachineWorld(code, 100)
            if world.is_whole:
                self.assertEqual(rows_coming(code), rows_by_machine(world))
                many += 1
        self.assertGreater(many, 400)


class ShortCodeTest(unittest.TestCase):

    def check(self, code):
        """That short code does the same, and what may stand in it."""
        short = short_code(code)
        self.assertIsNone(apart_by(code, short))
        self.assertEqual([sorted(short.tasks()), short.things()], [sorted(code.tasks()), code.things()])
        coming = rows_by_machine(MachineWorld(short, 10 ** 6))
        self.assertEqual(rows_coming(short), coming)
        calls = {row[1:3] for task, number in coming for row, _ in [short.rows(task)[number]] if row[0] == "call"}
        for task in short.tasks():
            rows = short.rows(task)
            mine = [number for one, number in coming if one == task]
            taken = self.entries([rows[number][0] for number in mine])
            lacking = [entry for one, entry in sorted(calls) if one == task and entry not in taken]
            more = [rows[number][0] for number in range(len(rows)) if number not in mine]
            self.assertEqual([row for row in more if row[0] != "over"], [("take", entry) for entry in lacking])
            self.assertLessEqual(len([row for row in more if row[0] == "over"]), 1)
            if not mine:
                self.assertEqual(rows[-1][0], ("over",))
            for row, is_on in rows:
                if row[0] == "go" and is_on:
                    self.assertFalse(rows[row[1]][1] and rows[row[1]][0][0] == "go")
        return short

    def entries(self, rows):
        return [entry for row in rows for entry in
                ([row[1]] if row[0] == "take" else [arm[1] for arm in row[1]] if row[0] == "offer" else [])]

    def test_ordinary(self):
        code = example_81()
        self.assertEqual(short_code(code=code), code)
        rows = {"main": [on("go", 2), NOTE, on("go", 4), NOTE, off("note", "y"), OVER], "z": [NOTE, OVER]}
        short = self.check(Code(rows))
        self.assertEqual([short.rows("main"), short.rows("z")], [[on("go", 1), off("note", "y"), OVER], [OVER]])

    def test_one_way_alone(self):
        # What is never come to goes, though rows tell that it could be.
        for truth in (True, False):
            for is_on in (True, False):
                code = Code({"main": [on("set", "f", truth), (("unless", "f", 4), is_on), NOTE, OVER, off("note", "y"), OVER]})
                short = self.check(code)
                notes = [row[1] for row, _ in short.rows("main") if row[0] == "note"]
                self.assertEqual(notes, ["x" if truth else "y"])
        # Nothing is left of it that would lead round, as far as rows tell.
        self.check(Code({"main": [on("set", "f", False), on("unless", "f", 4), NOTE, on("go", 1), OVER]}))
        self.check(Code({"main": [on("set", "f", False), on("unless", "f", 4), NOTE, on("go", 1), off("pick", (3, 5)), OVER]}))
        self.check(Code({"main": [on("set", "f", True), on("unless", "f", 3), off("pick", (1, 4)), NOTE, OVER]}))

    def test_entries_that_are_called_alone(self):
        code = Code({"main": [off("call", "b", "e", 1), OVER], "a": [off("nest", ["b"]), OVER],
                     "b": [off("take", "g"), off("take", "e"), off("take", "e"), OVER]})
        short = self.check(code)
        self.assertEqual(short.rows("b"), [off("take", "e"), OVER])
        code = Code({"main": [off("nest", ["b"]), off("call", "b", "e", 0), off("call", "b", "g", 0), OVER],
                     "b": [off("take", "h"), off("take", "g"), NOTE, off("offer", [(None, "e", 1), (None, "h", 0)], None)]})
        short = self.check(code)
        self.assertEqual(short.rows("b"), [off("take", "h"), off("take", "e"), OVER])
        self.assertEqual(short.rows("main"), [off("nest", ("b",)), off("call", "b", "e", 0), OVER])

    def test_who_is_ready_to_end(self):
        # A closing that "unless" stands behind is not ready to end, whichever way it always goes.
        for truth in (True, False):
            code = Code({"main": [off("nest", ["a", "s"]), off("close"), OVER],
                         "a": [on("set", "f", truth), off("nest", ["c"]), off("close"), on("unless", "f", 5), on("go", 6), NOTE,
                               OVER],
                         "c": [OVER], "s": [off("offer", [(None, "e", 0)], ("end",)), OVER]})
            self.check(code)

    def test_what_programs_are_compiled_to(self):
        program = Program(nest({
            "a": [("if", "f", [("note", "x")], [("pick", [[], [("note", "y")]])]),
                  ("again", [("note", "z"), ("pick", [[("leave",)], []])])],
            "c": [("again", [("note", "x")]), ("note", "y")]}))
        code = compiled(program)
        short = self.check(code)
        self.assertLess(sum(len(short.rows(task)) for task in short.tasks()),
                        sum(len(code.rows(task)) for task in code.tasks()))

    def test_many_codes(self):
        many = less = 0
        for code in all_codes(range(700)):
            world = MachineWorld(code, 60)
            if world.is_whole:
                short = self.check(code)
                many += 1
                less += sum(len(code.rows(task)) for task in code.tasks()) > sum(
                    len(short.rows(task)) for task in short.tasks())
                self.assertEqual(short_code(short), short)
        self.assertGreater(less, 400)


class NeededFlagsTest(unittest.TestCase):

    def test_ordinary(self):
        code = Code({"main": [on("set", "f", True), off("note", "x"), on("unless", "f", 4), on("set", "g", True),
                              on("unless", "g", 0), OVER]})
        self.assertEqual([needed_flags(code, "main", number) for number in range(6)],
                         [["f"], ["f"], [], ["g"], [], []])
        self.assertEqual(needed_flags(number=1, task="main", code=code), ["f"])
        # A later coming to the same row counts, and offers ask at a coming.
        code = Code({"main": [off("nest", ["a"]), OVER],
                     "a": [off("offer", [("f", "e", 1), ("g", "e", 2)], ("else", 1)), on("set", "f", True), on("go", 0)]})
        self.assertEqual([needed_flags(code, "a", number) for number in range(3)], [["g"], ["f", "g"], ["f", "g"]])
        # A "set" that is no step yet at the row, and one of another task, set nothing between.
        code = Code({"main": [off("set", "f", True), on("unless", "f", 2), off("set", "f", False), on("unless", "f", 4), OVER]})
        self.assertEqual([needed_flags(code, "main", number) for number in range(5)], [["f"], [], ["f"], [], []])

    def test_lives_apart(self):
        # What is asked behind a begin anew is asked of other flags.
        code = Code({"main": [off("nest", ["a"]), off("close"), off("pick", (0, 3)), OVER],
                     "a": [on("unless", "f", 1), off("note", "x"), on("over")]})
        self.assertEqual([needed_flags(code, "a", number) for number in range(3)], [[], [], []])

    def test_by_all_orders(self):
        many = found = 0
        for code in all_codes(range(1200)):
            world = MachineWorld(code, 30)
            told = flags_by_orders(code, 10, 1500) if world.is_whole else None
            if told is not None:
                for task in code.tasks():
                    for number in range(len(code.rows(task))):
                        flags = needed_flags(code, task, number)
                        self.assertLessEqual(told.get((task, number), set()), set(flags))
                        if flags_by_orders_is_all(world):
                            self.assertEqual(flags, sorted(told.get((task, number), set())))
                            many += 1
                        found += len(flags)
        self.assertGreater(many, 3000)
        self.assertGreater(found, 300)

    def test_errors(self):
        code = example_81()
        for thing in any_objects():
            if thing not in ("a", "main"):
                error = raised(needed_flags, code, thing, None)
                self.assertIsInstance(error, NoTask)
                self.assertIs(error.task, thing)
            error = raised(needed_flags, code, "a", thing)
            self.assertEqual(raised(needed_flags, code, "a", 2).number, 2)
            if isinstance(thing, bool) or thing not in (0, 1):
                self.assertIsInstance(error, NoRow)
                self.assertIs(error.number, thing)
            else:
                self.assertIsNone(error)


def flags_by_orders_is_all(world):
    """Whether no order of ten steps goes on: all steps lead to stands of later numbers, and there are few."""
    return len(world.goes) <= 10 and all(target > at for at, ways in enumerate(world.goes) for _, target in ways)


if __name__ == "__main__":
    unittest.main()
