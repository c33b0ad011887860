"""Points 92, 94 and 95: houses, what they tell, what is made again, and the way back."""

import random
import unittest

from meettasks.errors import (
    BadKind, BadMarks, BadName, BadSentence, BadStep, BadThing, Lacks, Needed, NoName, Nothing, NotOf)
from meettasks.houses import House
from meettasks.logs import fitting_run
from meettasks.marks import keepers
from meettasks.programs import Program
from meettasks.quarrels import quarrels
from meettasks.runs import Run
from meettasks.sentences import breach, values_coming, values_left
from meettasks.sketches import Sketch
from tests.makers import LOCK, example_11, example_33, nest
from tests.objects import any_objects, raised
from tests.test_logs import example_89

STEPS = [("main", "begin"), ("x", "wait"), ["y", "wait"]]
FREE = {"t": ["free"]}


def with_notes(word):
    """The program of point 33, with a loose task that notes a word."""
    task = [("wait", "t", "have"), ("use", "t", "give")]
    return Program(nest({"x": task, "y": task, "z": [("note", word)]}), {"t": LOCK})


def example_house():
    house = House()
    house.put("p", "program", example_33())
    house.put("r", "run", ("p", STEPS))
    house.put("values", "ask", ("values", "p"))
    house.put("left", "ask", ["left", "p"])
    house.put("holds", "ask", ("holds", "p", FREE, True))
    house.put("keep", "ask", ("keepers", "p", FREE, False, [("main", [0])]))
    house.put("fits", "ask", ("fits", "p", [["gap", 2], ("gap", None), ("ended", "x")]))
    house.put("quarrels", "ask", ("quarrels", "p", [("served", "x", "t", "have"), ("served", "q", "t", "have")]))
    return house


class PutTest(unittest.TestCase):

    def test_ordinary(self):
        house = example_house()
        self.assertEqual(house.names(), {"fits": "ask", "holds": "ask", "keep": "ask", "left": "ask", "p": "program",
                                         "quarrels": "ask", "r": "run", "values": "ask"})
        self.assertEqual(list(house.names()), sorted(house.names()))
        self.assertEqual(house.held("p"), example_33())
        self.assertEqual(house.held(name="r"), ("p", (("main", "begin"), ("x", "wait"), ("y", "wait"))))
        self.assertEqual(house.held("holds"), ("holds", "p", {"t": ("free",)}, True))
        self.assertEqual(house.held("keep"), ("keepers", "p", {"t": ("free",)}, False, (("main", (0,)),)))
        self.assertEqual(house.held("fits"), ("fits", "p", (("gap", 2), ("gap", None), ("ended", "x"))))
        self.assertEqual([house.held("left"), len(house)], [("left", "p"), 8])
        self.assertEqual(house.run(name="r"), Run(example_33(), STEPS))
        house.put(thing=("values", "p"), kind="ask", name="values")
        self.assertEqual(len(house), 9)
        house.drop(name="values")
        self.assertNotIn("values", house.names())
        self.assertEqual(len(house), 10)

    def test_told(self):
        house, program = example_house(), example_33()
        log = house.held("fits")[2]
        self.assertEqual(house.told(name="values"), values_coming(program))
        self.assertEqual(house.told("left"), values_left(program))
        self.assertIs(house.told("holds"), breach(program, FREE, True) is None)
        self.assertEqual(house.told("keep"), keepers(program, FREE, False, [("main", (0,))]))
        self.assertEqual(house.told("fits"), fitting_run(program, log))
        self.assertEqual(house.told("quarrels"), quarrels(program, house.held("quarrels")[2]))
        house.put("holds", "ask", ("holds", "p", FREE, False))
        self.assertIs(house.told("holds"), False)

    def test_told_things_are_new(self):
        house = example_house()
        for name in ("values", "left", "fits", "quarrels", "keep"):
            told = house.told(name)
            kept = list(told)
            told.append(0)
            self.assertEqual(house.told(name), kept)
        house.names().clear()
        house.held("holds")[2].clear()
        house.undo()
        house.again()
        self.assertEqual([len(house.names()), house.held("holds")[2]], [8, {"t": ("free",)}])
        sentence, steps = {"t": ["free"]}, [["main", "begin"]]
        house.put("holds", "ask", ("holds", "p", sentence, True))
        house.put("r", "run", ("p", steps))
        sentence["t"].append("kept")
        sentence.clear()
        steps[0][1] = "nothing"
        self.assertEqual([house.held("holds")[2], house.held("r")[1]], [{"t": ("free",)}, (("main", "begin"),)])
        deed = house.undo()
        self.assertEqual(deed, ("put", "r", "run", ("p", (("main", "begin"),))))
        deed = house.undo()
        deed[3][2].clear()
        self.assertEqual(house.again(), ("put", "holds", "ask", ("holds", "p", {"t": ("free",)}, True)))

    def test_sentences_ascending(self):
        house = House()
        house.put("p", "program", Program([], {"t": LOCK, "u": LOCK}))
        house.put("a", "ask", ("holds", "p", {"u": ["kept"], "t": ("free", "free")}, False))
        self.assertEqual(list(house.held("a")[2].items()), [("t", ("free", "free")), ("u", ("kept",))])

    def test_errors(self):
        house = example_house()
        for thing in any_objects():
            if not (isinstance(thing, str) and thing.isalpha() and thing.islower() and len(thing) < 9):
                error = raised(house.put, thing, None, None)
                self.assertIsInstance(error, BadName)
                self.assertIs(error.name, thing)
            error = raised(house.put, "q", thing, None)
            self.assertIsInstance(error, BadKind)
            self.assertIs(error.kind, thing)
            for kind in ("program", "run", "ask"):
                if kind == "program" and isinstance(thing, Program):
                    continue
                error = raised(house.put, "q", kind, thing)
                if kind == "run" and thing in (["main", []], ("main", ())):
                    self.assertIsInstance(error, Lacks)
                else:
                    self.assertIsInstance(error, BadThing, (kind, thing))
                    self.assertIs(error.thing, thing)
        self.assertIsInstance(raised(house.put, "q", "program", Sketch([])), BadThing)
        self.assertEqual([len(house), len(house.names())], [8, 8])

    def test_bad_things(self):
        house = example_house()
        log = [("gap", 1)]
        runs = [("p", [("Main", "begin")]), ("p", [(None, "begin")]), ("p", [([], "begin")]), ("p",), ("p", [], 0), ("P", []), (None, []), ("p", None), ("p", [None]), ("p", [("main",)]),
                ("p", [("main", "Begin")]), ("p", [("main", "begin", -1)]), ("p", [("main", "begin", True)]),
                ("p", [("main", "begin", None)]), ("p", [("main", "begin", 0, 0)]), ("p", {}), ("p", "x")]
        asks = [("values",), ("values", "p", 0), ("values", "P"), ("left", None), ("left",), ("holds", "p", FREE),
                ("holds", "p", FREE, 1), ("holds", "p", FREE, None), ("holds", "p", None, True), ("holds", "p", {"T": []}, True),
                ("holds", "p", {"t": ["Free"]}, True), ("holds", "p", {"t": "free"}, True), ("holds", "p", {1: []}, True),
                ("holds", "p", {"t": [["free"]]}, True), ("holds", "p", FREE, True, []), ("keepers", "p", FREE, True),
                ("keepers", "p", FREE, True, None), ("keepers", "p", FREE, True, [("a",)]),
                ("keepers", "p", FREE, True, [("a", None)]), ("keepers", "p", FREE, True, [("a", [-1])]),
                ("keepers", "p", FREE, True, [("a", [True])]), ("keepers", "p", FREE, True, [("A", [0])]),
                ("keepers", "p", FREE, True, [("a", [0], 0)]), ("keepers", "p", FREE, 0, []), ("fits", "p"),
                ("fits", "p", None), ("fits", "p", [("gap", -1)]), ("fits", "p", log, 0), ("fits", "p", [("note", "a")]),
                ("quarrels", "p", [("gap",)]), ("quarrels", 1, log), ("fit", "p", log), (["fits"], "p", log), (), ("p", "values"),
                {"values": "p"}]
        for kind, things in (("run", runs), ("ask", asks)):
            for thing in things:
                error = raised(house.put, "q", kind, thing)
                self.assertIsInstance(error, BadThing, thing)
                self.assertIs(error.thing, thing)
        for kind, thing in (("run", ["p", ()]), ("ask", ("keepers", "p", {}, True, [["nobody", []]])),
                            ("ask", ("holds", "p", {"nothing": ["no", "no"]}, False)), ("ask", ("fits", "p", [])),
                            ("ask", ("quarrels", "p", [["gap", 10 ** 18], ("note", "nobody", "x")]))):
            self.assertIsNone(raised(house.put, "q", kind, thing))

    def test_what_rests_on_what(self):
        house = example_house()
        for kind, rest in (("run", ([],)), ("ask", None)):
            def thing(name):
                return (name,) + rest if rest else ("values", name)

            self.assertEqual(raised(house.put, "q", kind, thing("z")).name, "z")
            self.assertIsInstance(raised(house.put, "q", kind, thing("z")), Lacks)
            # A name that is not kept yet is then this very thing.
            for name, told in (("q", "q"), ("q", "r"), ("r", "r"), ("q", "values"), ("values", "values"), ("p", "p")):
                error = raised(house.put, name, kind, thing(told))
                self.assertIsInstance(error, NotOf)
                self.assertEqual(error.name, told)
        error = raised(house.put, "q", "run", ("p", STEPS + [("y", "wait"), ("x", "use")]))
        self.assertIsInstance(error, BadStep)
        self.assertEqual(error.index, 3)
        # What is told first: steps, then whom another thing of this name would leave without.
        house.put("other", "program", example_11())
        self.assertIsInstance(raised(house.put, "p", "run", ("other", [("main", "begin"), ("x", "wait")])), BadStep)
        error = raised(house.put, "p", "run", ("other", [("main", "begin")]))
        self.assertIsInstance(error, Needed)
        self.assertEqual((error.name, error.by), ("p", "fits"))
        error = raised(house.put, "p", "ask", ("values", "other"))
        self.assertEqual((error.name, error.by), ("p", "fits"))

    def test_other_programs(self):
        house = example_house()
        error = raised(house.put, "p", "program", example_11())
        self.assertIsInstance(error, Needed)
        self.assertEqual((error.name, error.by), ("p", "r"))
        house.put("b", "run", ("p", STEPS))
        self.assertEqual(raised(house.put, "p", "program", example_11()).by, "b")
        # All asks go on with any program, all runs with one that can do their steps.
        house.put("p", "program", with_notes("a"))
        self.assertEqual(house.run("r").program(), with_notes("a"))
        house.drop("b")
        house.drop("r")
        house.put("p", "program", example_11())
        for name, kind in (("holds", BadSentence), ("keep", BadSentence)):
            error = raised(house.told, name)
            self.assertIsInstance(error, kind)
            self.assertEqual(error.name, "t")
            self.assertIsNot(raised(house.told, name), error)
        self.assertEqual([house.told("values"), house.told("fits")], [[()], None])

    def test_dropping(self):
        house = example_house()
        error = raised(house.drop, "p")
        self.assertIsInstance(error, Needed)
        self.assertEqual((error.name, error.by), ("p", "fits"))
        for name in ("fits", "holds", "keep", "left", "quarrels"):
            self.assertEqual(raised(house.drop, "p").by, name)
            house.drop(name)
        self.assertEqual(raised(house.drop, "p").by, "r")
        house.drop("r")
        self.assertEqual(raised(house.drop, "p").by, "values")
        house.drop("values")
        house.drop("p")
        self.assertEqual([house.names(), house == House(), len(house)], [{}, True, 16])

    def test_names_that_are_not_there(self):
        house = example_house()
        for thing in any_objects():
            for work in (house.drop, house.held, house.told, house.run):
                error = raised(work, thing)
                self.assertIsInstance(error, NoName)
                self.assertIs(error.name, thing)
        for work, names in ((house.told, ("p", "r")), (house.run, ("p", "values", "holds"))):
            for name in names:
                error = raised(work, name)
                self.assertIsInstance(error, NotOf)
                self.assertEqual(error.name, name)


class MadeTest(unittest.TestCase):

    def test_made_again(self):
        house = example_house()
        self.assertEqual(house.made(), [])
        for _ in range(2):
            for name in ("left", "holds", "left", "fits"):
                house.told(name)
        self.assertEqual(house.made(), ["left", "holds", "fits"])
        self.assertEqual(house.made(), [])
        # What a sentence cannot hang on makes nothing again.
        house.put("p", "program", with_notes("a"))
        for name in ("left", "holds", "fits"):
            house.told(name)
        self.assertEqual(house.made(), ["left", "holds", "fits"])
        house.put("p", "program", with_notes("b"))
        for name in ("holds", "left", "fits"):
            house.told(name)
        self.assertEqual(house.made(), ["left", "fits"])

    def test_put_drop_undo_and_again_leave_it(self):
        house = example_house()
        ask = house.held("left")
        told = house.told("left")
        house.drop("left")
        house.undo()
        house.told("left")
        house.drop("left")
        house.put("left", "ask", ask)
        house.told("left")
        house.put("left", "ask", ("values", "p"))
        house.undo()
        self.assertEqual([house.told("left"), house.made()], [told, ["left"]])
        # Another ask, though it is told the same, and the first one again behind it.
        house.put("left", "ask", ("values", "p"))
        house.told("left")
        house.put("left", "ask", ask)
        house.told("left")
        house.told("left")
        self.assertEqual(house.made(), ["left", "left"])
        # The same of a program with another name is another ask; an equal program is none.
        house.put("also", "program", example_33())
        house.put("p", "program", example_33())
        house.told("left")
        house.put("left", "ask", ("left", "also"))
        house.told("left")
        self.assertEqual(house.made(), ["left"])

    def test_sentences(self):
        house = example_house()
        self.assertEqual([house.told("holds"), house.made()], [True, ["holds"]])
        for sentence, made in (({"t": ("free",)}, []), ({"t": ["free", "kept"]}, ["holds"]), ({"t": ["kept", "free"]}, ["holds"]),
                               ({}, ["holds"])):
            house.put("holds", "ask", ("holds", "p", sentence, True))
            house.told("holds")
            self.assertEqual(house.made(), made)

    def test_errors_are_not_kept(self):
        house = example_house()
        house.put("bad", "ask", ("keepers", "p", FREE, True, [("nobody", [])]))
        for _ in range(2):
            error = raised(house.told, "bad")
            self.assertIsInstance(error, BadMarks)
            self.assertEqual(error.index, 0)
        self.assertEqual(house.made(), [])
        house.told("left")
        house.put("bad", "ask", ("values", "p"))
        house.told("bad")
        house.put("bad", "ask", ("holds", "p", {"q": []}, True))
        self.assertIsInstance(raised(house.told, "bad"), BadSentence)
        house.undo()
        house.told("bad")
        self.assertEqual(house.made(), ["left", "bad"])

    def test_always_what_a_new_house_tells(self):
        programs = [example_33(), with_notes("a"), with_notes("b"), example_11()]
        for seed in range(30):
            luck = random.Random(seed)
            house = House()
            for _ in range(25):
                name = luck.choice("abcd")
                deed = luck.choice(["program", "program", "ask", "ask", "ask", "drop", "undo", "again"])
                if deed == "program":
                    raised(house.put, luck.choice("pq"), "program", luck.choice(programs))
                elif deed == "ask":
                    on = luck.choice("pq")
                    raised(house.put, name, "ask", luck.choice([
                        ("values", on), ("left", on), ("holds", on, luck.choice([FREE, {}]), luck.choice([True, False])),
                        ("fits", on, [("gap", luck.choice([1, None])), ("ended", "x")])]))
                elif deed == "drop":
                    raised(house.drop, name)
                else:
                    raised(house.undo if deed == "undo" else house.again)
                self.check_told(house)

    def check_told(self, house):
        fresh = House()
        for kind in ("program", "ask"):
            for name in house.names():
                if house.names()[name] == kind:
                    fresh.put(name, kind, house.held(name))
        self.assertEqual(fresh, house)
        for name, kind in house.names().items():
            if kind == "ask":
                errors = [raised(one.told, name) for one in (house, fresh)]
                self.assertEqual(errors[0].__class__, errors[1].__class__)
                if errors[0] is None:
                    self.assertEqual(house.told(name), fresh.told(name))


class BackTest(unittest.TestCase):

    def test_undo_and_again(self):
        house = House()
        for work in (house.undo, house.again):
            self.assertIsInstance(raised(work), Nothing)
        program = example_89()
        house.put("p", "program", program)
        house.put("a", "ask", ["values", "p"])
        house.put("a", "ask", ["left", "p"])
        house.drop("a")
        self.assertEqual([house.undo(), len(house), house.held("a")], [("drop", "a"), 3, ("left", "p")])
        self.assertEqual([house.undo(), len(house), house.held("a")], [("put", "a", "ask", ("left", "p")), 2, ("values", "p")])
        self.assertEqual([house.again(), house.held("a")], [("put", "a", "ask", ("left", "p")), ("left", "p")])
        self.assertEqual([house.again(), house.names(), len(house)], [("drop", "a"), {"p": "program"}, 4])
        self.assertIsInstance(raised(house.again), Nothing)
        self.assertEqual([house.undo(), house.undo()], [("drop", "a"), ("put", "a", "ask", ("left", "p"))])
        # What raises changes nothing; a new deed ends the way forward.
        raised(house.put, "a", "ask", ("values", "z"))
        raised(house.drop, "p")
        raised(house.drop, "z")
        self.assertEqual(house.again(), ("put", "a", "ask", ("left", "p")))
        house.undo()
        house.drop("a")
        self.assertIsInstance(raised(house.again), Nothing)
        self.assertEqual([house.undo(), house.undo(), house.undo(), len(house)],
                         [("drop", "a"), ("put", "a", "ask", ("values", "p")), ("put", "p", "program", program), 0])
        self.assertIsInstance(raised(house.undo), Nothing)
        self.assertEqual(house, House())

    def test_asking_is_no_deed(self):
        house = example_house()
        house.undo()
        house.told("left")
        house.made()
        house.copy()
        house.trial(lambda other: other.drop("left"))
        self.assertEqual(house.again()[:2], ("put", "quarrels"))

    def test_copy(self):
        house = example_house()
        house.told("left")
        house.undo()
        other = house.copy()
        self.assertEqual([other == house, len(other), other.made(), house.made()], [True, 7, ["left"], ["left"]])
        other.told("left")
        self.assertEqual(other.made(), [])
        self.assertEqual(other.again(), house.again())
        other.drop("left")
        self.assertEqual([other == house, len(other), len(house), "left" in house.names()], [False, 9, 8, True])
        self.assertEqual(other.undo(), ("drop", "left"))
        self.assertEqual(other, house)

    def test_trial(self):
        house = example_house()
        house.told("left")

        def work(other):
            self.assertIs(other, house)
            other.drop("left")
            other.told("values")
            other.undo()
            other.undo()
            other.put("left", "ask", ("values", "p"))
            return other.told("left"), len(other)

        before = house.copy()
        self.assertEqual(house.trial(work=work), (values_coming(example_33()), 8))
        self.assertEqual([house == before, len(house), house.names()], [True, 8, before.names()])
        house.told("values")
        house.told("left")
        self.assertEqual(house.made(), ["left", "values"])
        self.assertIsInstance(raised(house.again), Nothing)
        house.undo()
        for error in (KeyError("x"), Needed("a", "b"), KeyboardInterrupt()):
            def fail(other):
                other.drop("left")
                other.told("values")
                other.made()
                raise error

            with self.assertRaises(error.__class__) as caught:
                house.trial(fail)
            self.assertIs(caught.exception, error)
            self.assertEqual([len(house), "left" in house.names(), house.again()[:2], house.undo()[:2]],
                             [7, True, ("put", "quarrels"), ("put", "quarrels")])
        # One in another.
        self.assertEqual(house.trial(lambda one: one.trial(lambda other: other.drop("left")) or len(one)), 7)
        self.assertEqual(len(house), 7)

    def test_equal(self):
        one, other = example_house(), House()
        for name in ("p", "r", "left", "values", "quarrels", "holds", "fits", "keep"):
            self.assertNotEqual(one, other)
            other.put(name, one.names()[name], one.held(name))
        self.assertEqual(one, other)
        other.put("left", "ask", ("values", "p"))
        self.assertNotEqual(one, other)
        other.put("left", "ask", ("left", "p"))
        self.assertEqual([one == other, len(one) == len(other)], [True, False])
        for thing in any_objects():
            self.assertFalse(one == thing)


if __name__ == "__main__":
    unittest.main()
