"""Points 35 and 36: least lots of marks, and whom marks bar from aborting."""

import unittest
from itertools import combinations

from meettasks.errors import BadMarks, BadSentence, BadTruth
from meettasks.marks import barred_abort, breakers, keepers
from meettasks.programs import Program
from meettasks.sentences import breach
from meettasks.things import Thing
from tests.makers import CELL, LOCK, example_33, made_up, nest
from tests.marked import MarkedWorld
from tests.objects import any_objects, raised
from tests.test_sentences import BEGIN, CUT, CUT_TOGETHER, all_marks, example_42


def lots_of(things):
    return [lot for many in range(len(things) + 1) for lot in combinations(things, many)]


def least(lots):
    return [lot for lot in lots if not any(set(less) < set(lot) for less in lots)]


class LotsTest(unittest.TestCase):

    def test_example(self):
        mark = ("a", (0,))
        self.assertEqual(keepers(example_42(), {"lock": ["free"]}, True, [mark]), [(mark,)])
        self.assertEqual(breakers(marks=(["a", [0]],), at_end=True, sentence={"lock": ("free",)},
                                  program=example_42()), [(mark,)])
        self.assertEqual(keepers(example_42(), {"lock": ["free"]}, False, [mark]), [])
        self.assertEqual(breakers(example_42(), {"lock": ["free"]}, False, [mark]), [()])
        self.assertEqual(keepers(example_42(), {}, True, [mark]), [()])
        self.assertEqual(breakers(example_42(), {}, True, [mark]), [])
        self.assertEqual([keepers(example_42(), {}, True, ()), breakers(example_42(), {}, True, ())], [[()], []])

    def test_several_lots(self):
        # Either of two marks keeps a's two uses together; b needs one of its own.
        def guarded(word):
            return [("pick", [[("again", [("use", "t", word), ("use", "t", word), ("leave",)])], []])]
        turn = {"no": "yes", "yes": "no"}
        thing = Thing(["no", "yes"], "no", {"turn": turn}, {})
        program = Program(nest({"a": guarded("turn"), "b": guarded("turn"), "c": [("abort", "a"), ("abort", "b")]}),
                          {"t": thing})
        outer, inner, other = ("a", (0,)), ("a", (0, 0, 0)), ("b", (0,))
        sentence = {"t": ["no"]}
        self.assertEqual(keepers(program, sentence, True, [inner, other, outer]), [(inner, other), (other, outer)])
        self.assertEqual(breakers(program, sentence, True, [inner, other, outer]), [(other,), (inner, outer)])
        self.assertEqual(keepers(program, sentence, True, [outer, inner]), [])

    def test_by_stepping(self):
        several = 0
        for seed in CUT + CUT_TOGETHER:
            program = made_up(seed)
            marks = all_marks(program)[:4][::-1]
            for sentence in ({"t": ["free"]}, {"u": ["no", "two"]}, {"t": ["kept"], "u": ["no"]}):
                for at_end in (True, False):
                    kept = [lot for lot in lots_of(marks)
                            if MarkedWorld(program, lot).breach(sentence, at_end) is None]
                    broken = [lot for lot in lots_of(marks) if MarkedWorld(
                        program, [mark for mark in marks if mark not in lot]).breach(sentence, at_end) is not None]
                    found, against = [work(program, sentence, at_end, marks) for work in (keepers, breakers)]
                    self.assertEqual([found, against], [least(kept), least(broken)])
                    several += len(found) == 1 and len(found[0]) == 1
                    for lot in lots_of(marks):
                        inside = any(set(one) <= set(lot) for one in found)
                        self.assertEqual(inside, all(set(one) & set(lot) for one in against))
                        self.assertEqual(inside, breach(program, sentence, at_end, lot) is None)
        self.assertGreater(several, 0)

    def test_errors(self):
        program = Program(example_33().body("main"), {"t": LOCK, "u": CELL})
        for work in (keepers, breakers):
            for thing in any_objects():
                if thing != {}:
                    self.assertIsInstance(raised(work, program, thing, None, None), BadSentence)
                if not isinstance(thing, bool):
                    error = raised(work, program, {}, thing, None)
                    self.assertIsInstance(error, BadTruth)
                    self.assertIs(error.thing, thing)
                if thing not in ([], ()):
                    error = raised(work, program, {}, False, thing)
                    self.assertIsInstance(error, BadMarks)
                    self.assertEqual(error.index, 0)
            self.assertEqual(raised(work, program, {"t": ["free"], "u": ["free"]}, True, []).name, "u")
            self.assertEqual(raised(work, program, {}, True, [("main", (0,)), ["main", [0]]]).index, 1)


class BarredTest(unittest.TestCase):

    def test_who_waits_inside_bars(self):
        tasks = {"a": [("if", "f", [], [("wait", "t", "have"), ("wait", "t", "have")])], "c": [("abort", "a")],
                 "b": [("note", "x"), ("abort", "c"), ("abort", "a")]}
        program = Program(nest(tasks), {"t": LOCK})
        self.assertIsNone(barred_abort(program, []))
        # Also a task that has not come to its wait yet bars, for it can wait there for ever; b's can come first.
        row, task = barred_abort(program, [("a", [0])])
        self.assertEqual((row, task), MarkedWorld(program, [("a", (0,))]).barred_abort())
        self.assertEqual((row, task), ([BEGIN], "c"))
        tasks["d"] = [("use", "t", "give"), ("use", "t", "give")]
        helped = Program(nest(tasks), {"t": LOCK})
        row, task = barred_abort(marks=(("a", (0,)),), program=helped)
        self.assertEqual((row, task), MarkedWorld(helped, [("a", (0,))]).barred_abort())

    def test_a_call_is_not_inside_itself(self):
        tasks = {"a": [("call", "s", "e", [("note", "x")])], "c": [("abort", "a")],
                 "s": [("wait", "t", "have"), ("wait", "t", "have"), ("take", "e", [])]}
        program = Program(nest(tasks), {"t": LOCK})
        self.assertIsNone(barred_abort(program, [("a", (0,))]))

    def test_own_mark(self):
        program = Program(nest({"a": [("pick", [[("abort", "a")], []])]}))
        self.assertIsNone(barred_abort(program, []))
        self.assertEqual(barred_abort(program, [("a", (0,))]), ([BEGIN, ("a", "pick", 0)], "a"))

    def test_begun_anew(self):
        # Only when t has ended p is let go on: begun anew t has to stand at its abort without a step of its own.
        thing = Thing(["no", "yes"], "no", {"put": {"no": "yes", "yes": "yes"}}, {"get": {"yes": "no"}})
        marks = [("p", (0,))]
        for ahead, task in (([], None), ([("note", "x")], "t")):
            inner = nest({"t": ahead + [("abort", "p")], "k": [("abort", "t")]})
            program = Program(nest({"p": [("if", "f", [], [("wait", "u", "get")])],
                                    "m": [("again", inner + [("use", "u", "put")])]}), {"u": thing})
            told = barred_abort(program, marks)
            self.assertEqual(told, MarkedWorld(program, marks).barred_abort())
            self.assertEqual(None if told is None else told[1], task)

    def test_by_stepping(self):
        found = 0
        for seed in CUT + CUT_TOGETHER + [294, 338, 361, 374, 379, 386, 391, 395, 412, 414, 418, 438, 469]:
            program = made_up(seed)
            for marks in (all_marks(program), all_marks(program)[:2], all_marks(program)[1:3], []):
                told = barred_abort(program, marks)
                self.assertEqual(told, MarkedWorld(program, marks).barred_abort())
                found += told is not None
        self.assertGreater(found, 5)

    def test_errors(self):
        for thing in any_objects():
            if thing not in ([], ()):
                error = raised(barred_abort, example_42(), thing)
                self.assertIsInstance(error, BadMarks)
                self.assertEqual(error.index, 0)
        self.assertEqual(raised(barred_abort, example_42(), [("a", (0,)), ("a", (0, 1, 0))]).index, 1)


if __name__ == "__main__":
    unittest.main()
