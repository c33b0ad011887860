"""Point 90: programs as texts, and texts read as programs."""

import random
import unittest

from meettasks.errors import BadBody, BadText
from meettasks.programs import Program
from meettasks.programtexts import read_program, write_program
from meettasks.things import Thing
from tests.makers import CELL, LOCK, made_up, markets, nest, servers
from tests.objects import any_objects, raised
from tests.test_logs import example_89

EXAMPLE = "task main\n  nest a\ntask a\n  pick\n    way\n      note x\n    way\n      note y\n  note z\n"

EVERY = """thing t free free kept
deed give free free
entry have kept -
thing u no no one two
deed put one two two
entry all - - no
entry get - no one
thing v a a
task main
  nest a b
    nest c
      note x
    again
      if f
        leave
      set f yes
      note y
task a
  again
    offer
      arm e
        note x
      arm g if f
      else
        abort b
  call b e
    wait t have
    use t give
task b
  take e
    take e
  offer
    arm e
    end
  set g no
  if g
  else
    note x
  if g
    note y
  else
    note z
  nest d
task d
  offer
    arm h
    else
task c
  pick
    way
    way
      call a e
"""


def every_program():
    return Program([("nest", {
        "a": [("again", [("offer", [(None, "e", [("note", "x")]), ("f", "g", [])], ("else", [("abort", "b")]))]),
              ("call", "b", "e", [("wait", "t", "have"), ("use", "t", "give")])],
        "b": [("take", "e", [("take", "e", [])]), ("offer", [(None, "e", [])], ("end",)), ("set", "g", False),
              ("if", "g", [], [("note", "x")]), ("if", "g", [("note", "y")], [("note", "z")]),
              ("nest", {"d": [("offer", [(None, "h", [])], ("else", []))]}, [])]},
        [("nest", {"c": [("pick", [[], [("call", "a", "e", [])]])]}, [("note", "x")]),
         ("again", [("if", "f", [("leave",)], []), ("set", "f", True), ("note", "y")])])],
        {"v": Thing(["a"], "a", {}, {}), "u": CELL, "t": LOCK})


class WriteTest(unittest.TestCase):

    def test_example(self):
        self.assertEqual(write_program(program=example_89()), EXAMPLE)
        self.assertEqual(read_program(text=EXAMPLE), example_89())
        self.assertEqual([write_program(Program([])), read_program("task main\n")], ["task main\n", Program([])])

    def test_all_deeds(self):
        self.assertEqual(write_program(every_program()), EVERY)
        program = read_program(EVERY)
        self.assertEqual([program, program.things()], [every_program(), every_program().things()])

    def test_words_that_mean_something(self):
        program = Program(nest({"note": [("take", "end", []), ("offer", [("if", "else", []), (None, "if", [])], None)],
                                "task": [("call", "note", "if", []), ("set", "yes", False), ("use", "entry", "deed"),
                                         ("wait", "entry", "gap")]}),
                          {"entry": Thing(["thing", "any"], "any", {"deed": {"thing": "any", "any": "thing"}},
                                          {"gap": {}})})
        self.assertEqual(read_program(write_program(program)), program)

    def test_both_ways(self):
        for seed in range(600):
            program = (made_up, servers, markets)[seed % 3](seed)
            text = write_program(program)
            again = read_program(text)
            self.assertEqual([again, write_program(again)], [program, text])


class ReadTest(unittest.TestCase):

    def check(self, text, index):
        error = raised(read_program, text)
        self.assertIsInstance(error, BadText, text)
        self.assertEqual(error.index, index, text)

    def test_no_text(self):
        for thing in any_objects():
            if not isinstance(thing, str):
                self.check(thing, 0)
        for text in ("", "task main", "\n", "task a\n", " task main\n", "task main \n", "task  main\n", "tasks main\n",
                     "note x\n", "task main x\n", "TASK main\n", "task\n", "task main\r\n", "task\tmain\n"):
            self.check(text, 0)

    def test_lines_that_cannot_stand_there(self):
        lines = EVERY.split("\n")[:-1]
        for at in range(len(lines)):
            self.check("\n".join(lines[:at + 1]), at)
            inner = lines[at].lstrip()
            spread = lines[at][:-len(inner)] + inner.replace(" ", "  ")
            for line in (" " + lines[at], lines[at] + " ", lines[at].upper(), spread, lines[at] + " 7", "", "way", "entry",
                         "what", "  " * 9 + "note x"):
                if line != lines[at]:
                    self.check("\n".join(lines[:at] + [line] + lines[at + 1:]) + "\n", at)
            # Further in it may stand in what is ahead of it.
            error = raised(read_program, "\n".join(lines[:at] + ["  " + lines[at]] + lines[at + 1:]) + "\n")
            self.assertTrue(not isinstance(error, BadText) or error.index >= at)

    def test_deeds(self):
        for line in ("note", "note x y", "note X", "note 1", "set f", "set f true", "set f yes no", "set yes", "if", "if f g",
                     "pick x", "again x", "leave x", "call a", "call a e f", "take", "take e f", "offer e", "use t", "use t a b",
                     "wait t", "nest", "nest b a", "nest a a", "nest A", "abort", "abort a b", "way", "arm e", "else", "end",
                     "task b", "thing t a a", "deed a", "entry a", "sleep", "notes x", "note longwordx", "-"):
            self.check("task main\n  note x\n  " + line + "\n", 2)
        for text, index in (("  pick\n", 2), ("  pick\n    way\n", 3), ("  pick\n    way\n  note x\n", 3), ("  offer\n", 2),
                            ("  pick\n    way\n    way x\n", 3), ("  pick\n    note x\n", 2), ("  offer\n    else\n", 2),
                            ("  offer\n    end\n", 2), ("  offer\n    arm e\n    end\n    arm f\n", 4),
                            ("  offer\n    arm e\n    else\n    end\n", 4), ("  offer\n    arm e\n    end\n      note x\n", 4),
                            ("  offer\n    arm e f\n", 2), ("  offer\n    arm e if\n", 2), ("  offer\n    arm e if f g\n", 2),
                            ("  offer\n    arm e of f\n", 2), ("  offer\n    arm\n", 2), ("  offer\n    arm e\n    else x\n", 3),
                            ("  if f\n  else\n", 3), ("  if f\n  else\n  note x\n", 3), ("  if f\n    else\n", 2),
                            ("  if f\n  else\n    note x\n  else\n    note x\n", 4), ("  note x\n  else\n    note x\n", 2),
                            ("  note x\n    note y\n", 2), ("  again\n      note x\n", 2), ("  leave\n    note x\n", 2),
                            ("  nest a\n", 2), ("  nest a\ntask b\n", 2), ("  nest a b\ntask a\n", 3), ("task a\n", 1),
                            ("  nest a b\ntask b\ntask a\n", 2), ("  nest a\ntask a\ntask b\n", 3), ("  nest a\n  task a\n", 2),
                            ("  nest a\n    nest b\ntask b\ntask a\n", 3), ("  nest a\ntask a\n  nest b\n  nest c\ntask b\n", 6),
                            ("  nest a\nthing t x x\ntask a\n", 2)):
            self.check("task main\n" + text, index)

    def test_tasks_in_their_places(self):
        # Each with those of its own nests behind it; also a word that stood before wants its lines.
        text = "task main\n  nest a c\n  nest d\ntask a\n  nest b\ntask b\ntask c\ntask d\n"
        self.assertEqual(read_program(text).tasks(), ["main", "a", "b", "c", "d"])
        twice = "task main\n  nest a\n  nest a\ntask a\n  note x\n"
        self.check(twice, 5)
        error = raised(read_program, twice + "task a\n")
        self.assertIsInstance(error, BadBody)
        self.assertEqual((error.task, error.path), ("main", (1,)))
        error = raised(read_program, "task main\n  nest main\ntask main\n")
        self.assertEqual((error.task, error.path), ("main", (0,)))

    def test_things(self):
        for line in ("thing", "thing t", "thing t a", "thing t a b", "thing t a a a", "thing T a a", "thing t a A a",
                     "thing t a 1 a", "thing t A A", "thing longwordx a a"):
            self.check(line + "\ntask main\n", 0)
        for line in ("deed", "deed d", "deed d a", "deed d a b a", "deed d a c", "deed d a -", "deed D a b", "deed c a b",
                     "deed longwordx a b", "entry e a", "entry e a b -", "entry e a c", "entry E - -", "entry c a b",
                     " deed z a b", "deed z  a b", "thing s a a", "thing t a a", "deed b a b", "entry e a --", "deed d - -"):
            text = "thing t a a b\ndeed c a b\n" + line + "\ntask main\n"
            self.check(text, 2)
        for lines, index in ((["entry f a -", "entry e a b"], 3), (["entry f a -", "entry f a b"], 3),
                             (["entry f - -", "deed z a b"], 3), (["deed z a b", "deed u a b"], 3)):
            self.check("thing t a a b\ndeed t a b\n" + "\n".join(lines) + "\ntask main\n", index)
        self.assertEqual(read_program("thing t b a b\ndeed d b b\nentry e - -\nentry f a b\ntask main\n").things()["t"],
                         Thing(["a", "b"], "b", {"d": {"a": "b", "b": "b"}}, {"e": {}, "f": {"a": "a", "b": "b"}}))

    def test_bad_bodies_come_last(self):
        for line, path in (("  leave", (1,)), ("  abort a", (1,)), ("  call a e", (1,)), ("  use t a", (1,)), ("  again", (1,)),
                           ("  wait t a", (1,))):
            error = raised(read_program, "task main\n  note x\n" + line + "\n")
            self.assertIsInstance(error, BadBody)
            self.assertEqual((error.task, error.path), ("main", path))
            self.check("task main\n  note x\n" + line + "\n  note X\n", 3)

    def test_changed_lines(self):
        # Whatever is changed, it is read as it is written, or is none.
        luck = random.Random(1)
        many = {}
        for seed in range(400):
            lines = write_program(made_up(seed)).split("\n")[:-1]
            at = luck.randrange(len(lines))
            change = luck.choice(["drop", "twice", "swap", "in", "out"])
            if change == "drop":
                lines.pop(at)
            elif change == "twice":
                lines.insert(at, lines[at])
            elif change == "swap":
                lines.insert(luck.randrange(len(lines)), lines.pop(at))
            else:
                lines[at] = "  " + lines[at] if change == "in" else lines[at][2:]
            text = "".join(line + "\n" for line in lines)
            error = raised(read_program, text)
            if error is None:
                self.assertEqual(write_program(read_program(text)), text)
            many[error.__class__] = many.get(error.__class__, 0) + 1
        self.assertEqual(sorted([kind.__name__ for kind in many]), ["BadBody", "BadText", "NoneType"])


if __name__ == "__main__":
    unittest.main()
