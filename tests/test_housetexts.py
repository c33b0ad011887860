"""Point 95: the texts of houses."""

import unittest

from meettasks.errors import BadText
from meettasks.houses import House
from meettasks.housetexts import read_house, write_house
from meettasks.programs import Program
from tests.makers import LOCK, example_33, made_up, nest
from tests.objects import any_objects, raised
from tests.test_houses import example_house
from tests.test_logs import example_89

TEXT = """ask fits
  fits p
    gap 2
    gap any
    ended x
ask holds
  holds p yes
    worth t free
ask keep
  keepers p no
    worth t free
    mark main 0
ask left
  left p
program p
  thing t free free kept
  deed give free free
  entry have kept -
  task main
    nest x y
  task x
    wait t have
    use t give
  task y
    wait t have
    use t give
ask quarrels
  quarrels p
    served x t have
    served q t have
run r
  of p
  main begin
  x wait
  y wait
ask values
  values p
"""


def other_house():
    house = House()
    house.put("e", "program", example_89())
    house.put("a", "run", ("e", [("main", "begin"), ("a", "pick", 0)]))
    house.put("b", "run", ("e", ()))
    house.put("c", "ask", ("keepers", "e", {}, True, [("b", [1, 0, 10]), ("a", [])]))
    house.put("d", "ask", ("holds", "e", {"u": ["no", "no"], "t": []}, False))
    house.put("f", "ask", ("fits", "e", []))
    house.put("g", "ask", ("fits", "e", [("gap", 0), ("gap", 10 ** 18 - 1), ("meets", "a", "b", "gap")]))
    return house


class HouseTextsTest(unittest.TestCase):

    def check(self, text, index):
        error = raised(read_house, text)
        self.assertIsInstance(error, BadText, text)
        self.assertEqual(error.index, index, text)

    def test_all_kinds(self):
        house = example_house()
        house.told("left")
        self.assertEqual(write_house(house=house), TEXT)
        read = read_house(text=TEXT)
        self.assertEqual([read == house, len(read), read.made(), write_house(read)], [True, 0, [], TEXT])
        self.assertIsNotNone(raised(read.undo))
        self.assertIsNotNone(raised(read.again))
        self.assertEqual(read.told("fits"), house.told("fits"))
        self.assertEqual([read.made(), read.held("holds"), read.run("r") == house.run("r")],
                         [["fits"], house.held("holds"), True])

    def test_edges(self):
        house = other_house()
        text = write_house(house)
        self.assertEqual(read_house(text), house)
        self.assertEqual(write_house(read_house(text)), text)
        lines = text.split("\n")
        for line in ("  a pick 0", "  keepers e yes", "    mark b 1 0 10", "    mark a", "    worth t", "    worth u no no",
                     "    gap 0", "    gap 999999999999999999", "    meets a b gap", "  of e"):
            self.assertIn(line, lines)
        self.assertLess(lines.index("    worth t"), lines.index("    worth u no no"))
        self.assertEqual([write_house(House()), read_house("") == House(), len(read_house(""))], ["", True, 0])

    def test_houses_of_programs(self):
        for seed in range(60):
            house = House()
            for name, number in (("b", seed), ("a", seed + 1)):
                program = made_up(number)
                house.put(name, "program", program)
                house.put("r" + name, "run", (name, []))
            self.assertEqual(read_house(write_house(house)), house)

    def test_no_text(self):
        for thing in any_objects():
            if thing != "":
                self.check(thing, 0)

    def test_lines_that_cannot_stand_there(self):
        for text in (TEXT, write_house(other_house())):
            lines = text.split("\n")[:-1]
            for at in range(len(lines)):
                self.check("\n".join(lines[:at + 1]), at)
                for line in (" " + lines[at], lines[at] + " ", "", lines[at] + " -", lines[at].upper(), "what", "  what is it",
                             "       note x", "program", "ask Q", "run  r", "    " * 3 + "gap 1"):
                    self.check("\n".join(lines[:at] + [line] + lines[at + 1:]) + "\n", at)

    def test_asks_and_runs(self):
        program = "program p\n  task main\n    note x\n"
        for text, index in (("ask q\n", 4), ("ask q\n  sums p\n", 4), ("ask q\n  values\n", 4), ("ask q\n  values p yes\n", 4),
                            ("ask q\n  values p\n    worth t\n", 5), ("ask q\n  values P\n", 4), ("ask q\n  holds p\n", 4),
                            ("ask q\n  holds p maybe\n", 4), ("ask q\n  holds p True\n", 4),
                            ("ask q\n  holds p yes\n    mark a 0\n", 5), ("ask q\n  holds p yes\n    worth\n", 5),
                            ("ask q\n  holds p yes\n    worth t T\n", 5), ("ask q\n  holds p yes\n    worth t\n    worth t\n", 6),
                            ("ask q\n  holds p yes\n    worth t\n    worth s\n", 6), ("ask q\n  holds p yes\n  worth t\n", 5),
                            ("ask q\n  keepers p no\n    mark\n", 5), ("ask q\n  keepers p no\n    mark a 00\n", 5),
                            ("ask q\n  keepers p no\n    mark a 01\n", 5), ("ask q\n  keepers p no\n    mark a -1\n", 5),
                            ("ask q\n  keepers p no\n    mark a x\n", 5), ("ask q\n  keepers p no\n    mark a 0\n    worth t\n", 6),
                            ("ask q\n  keepers p no\n    mark A 0\n", 5), ("ask q\n  fits p yes\n", 4),
                            ("ask q\n  fits p\n    gap\n", 5), ("ask q\n  fits p\n    gap 07\n", 5), ("ask q\n  fits p\n    gap -1\n", 5),
                            ("ask q\n  fits p\n    gap all\n", 5), ("ask q\n  fits p\n    gap 1 2\n", 5),
                            ("ask q\n  fits p\n    gap any any\n", 5), ("ask q\n  fits p\n    note a\n", 5),
                            ("ask q\n  fits p\n    begin a x\n", 5), ("ask q\n  fits p\n    ended a b\n", 5),
                            ("ask q\n  fits p\n    ended A\n", 5), ("ask q\n  fits p\n    gap \u0663\n", 5),
                            ("run q\n", 4), ("run q\n  main begin\n", 4), ("run q\n  of\n", 4), ("run q\n  of p p\n", 4),
                            ("run q\n  of P\n", 4), ("run q\n  of p\n  main\n", 5), ("run q\n  of p\n  main note x\n", 5),
                            ("run q\n  of p\n  main note 00\n", 5), ("run q\n  of p\n  main note 1 1\n", 5),
                            ("run q\n  of p\n    main note\n", 5), ("run q\n  of p\n  main Note\n", 5), ("run p\n  of p\n", 3),
                            ("run o\n  of p\n", 3), ("ask q\n  values p\nask q\n  left p\n", 5), ("house q\n", 3),
                            ("program q\n", 4), ("program q\ntask main\n", 4), ("program q\n  task main\n  note x\n", 5),
                            ("program q\n  thing t a b\n  task main\n", 4), ("program q\n  task main\n    nest a\n", 6),
                            ("program q\n  task main\n    nest a\nprogram r\n", 6)):
            self.check(program + text, index)
        self.assertIsNone(raised(read_house, program + "ask q\n  keepers p no\n    worth t\n    mark a\nrun s\n  of p\n  main note\n"))

    def test_what_put_would_refuse(self):
        good = "program b\n  task main\n    note x\n"
        bad = "program a\n  task main\n    leave\n"
        self.check(bad + good, 0)
        self.check(good + bad.replace("program a", "program c"), 3)
        # First the first program that is none, wherever it stands; then the first run or ask, all others being there.
        runs = "ask a\n  values zz\n" + good + "run c\n  of b\n  main begin\nask d\n  left a\n"
        self.check(runs, 0)
        self.check(runs + bad.replace("program a", "program z"), 10)
        self.check(runs.replace("zz", "b"), 5)
        self.check(runs.replace("zz", "b").replace("main begin", "main note"), 8)
        self.check(runs.replace("zz", "a"), 0)
        fine = runs.replace("zz", "b").replace("main begin", "main note").replace("left a", "left b")
        self.assertEqual(read_house(fine).names(), {"a": "ask", "b": "program", "c": "run", "d": "ask"})
        # A line that cannot stand there is told ahead of all this.
        self.check(runs + "ask e\n  values\n", 11)
        self.check(bad + "what\n", 3)

    def test_program_that_is_no_longer_there(self):
        house = House()
        house.put("p", "program", example_33())
        house.put("q", "program", Program(nest({"x": []}), {"t": LOCK}))
        house.put("r", "run", ("q", [("main", "begin"), ("main", "closes")]))
        self.assertEqual(read_house(write_house(house)).run("r"), house.run("r"))


if __name__ == "__main__":
    unittest.main()
