"""Points 77 and 78: doing the same, papers, and cuts."""

import random
import unittest
from itertools import combinations

from meettasks.codes import Code, cut_code
from meettasks.compiling import compiled
from meettasks.cuts import cut_shows, unseen_cuts
from meettasks.errors import BadCuts
from meettasks.papers import apart_by, is_paper, paper
from meettasks.programs import Program
from meettasks.runs import Run
from tests.codemakers import OVER, all_codes, example_81
from tests.makers import count_stands, made_up, nest
from tests.objects import any_objects, raised
from tests.plain import World
from tests.plaincode import MachineWorld

NOTE = (("note", "x"), False)
MEETS, FIRST, OTHER = ("meets", "a", "b", "e"), ("note", "b", "y"), ("note", "c", "w")


def code_edges(code, most):
    """What happens ahead of all steps, and for each stand the pairs (events, stand) of its steps, or None."""
    world = MachineWorld(code, most)
    if not world.is_whole:
        return None
    return tuple(world.runs[0].events), [[(told, target) for _, target, told, _ in edges] for edges in world.edges]


def program_edges(program, most):
    if count_stands(program, most) > most:
        return None
    world = World(Run(program))
    found = []
    for at, run in enumerate(world.runs):
        many = len(run.events())
        found.append([(tuple(run.more([step]).events()[many:]), target) for step, target in world.goes[at]])
    return tuple(world.runs[0].events()), found


def all_rows(told, most):
    """The rows of events of all orders and those behind which no step can be done; None if these are too many."""
    events, edges = told
    cans, rests, coming, many = set(), set(), [(0, events, ())], 0
    while coming:
        at, row, seen = coming.pop()
        many += 1
        if many > most or at in seen:
            return None
        cans.update([row[:length] for length in range(len(row) + 1)])
        if not edges[at]:
            rests.add(row)
        coming += [(target, row + more, seen + (at,)) for more, target in edges[at]]
    return cans, rests


def first_difference(one, other):
    found = [(len(row), row, what) for what in (0, 1) for row in one[what] ^ other[what]]
    if not found:
        return None
    _, row, what = min(found)
    return list(row), ("can", "rest")[what], 0 if row in one[what] else 1


def on_rows(code):
    return [(task, number) for task in code.tasks() for number, (_, on) in enumerate(code.rows(task)) if on]


class ApartTest(unittest.TestCase):

    def test_example(self):
        code = example_81()
        self.assertEqual(cut_shows(code, [("b", 2)]), ([MEETS, FIRST, OTHER], "can", 1))
        self.assertEqual(cut_shows(cuts=[["main", 2]], code=code), None)
        self.assertEqual(apart_by(cut_code(code, [("b", 2)]), code), ([MEETS, FIRST, OTHER], "can", 0))
        self.assertIsNone(apart_by(other=code, one=code))

    def test_whats(self):
        note = Code({"main": [NOTE, OVER]})
        self.assertEqual(apart_by(note, Code({"main": [(("pick", (1, 2)), False), NOTE, OVER]})),
                         ([("ended", "main")], "can", 1))
        stays = Code({"main": [NOTE, (("take", "e"), False), OVER]})
        ends = ("ended", "main")
        self.assertEqual(apart_by(note, stays), ([("note", "main", "x")], "rest", 1))
        self.assertEqual(apart_by(stays, note), ([("note", "main", "x")], "rest", 0))
        round_it = Code({"main": [NOTE, (("go", 1), False)]})
        self.assertEqual(apart_by(round_it, stays), ([("note", "main", "x")], "rest", 1))
        both = Code({"main": [NOTE, (("pick", (1, 2)), False), (("take", "e"), False), OVER]})
        self.assertEqual(apart_by(both, stays), ([("note", "main", "x")], "round", 0))
        self.assertEqual(apart_by(stays, both), ([("note", "main", "x")], "round", 1))
        # Where events of the step are still to come nothing goes on without one.
        notes = {"main": [(("nest", ["a"]), False), (("go", 1), False)], "a": [NOTE, OVER]}
        own = {**notes, "a": [NOTE, (("over",), False)]}
        self.assertEqual(apart_by(Code(notes), Code(own)), ([("note", "a", "x")], "round", 1))
        # A round that is not led to without an event is none of this row; a silent one of both is.
        late = Code({"main": [(("note", "x"), False), (("note", "y"), False), (("go", 2), False)]})
        later = Code({"main": [(("note", "x"), False), (("note", "y"), False), (("take", "e"), False), OVER]})
        self.assertEqual(apart_by(late, later), ([("note", "main", "x"), ("note", "main", "y")], "rest", 1))
        self.assertIsNone(apart_by(round_it, Code({"main": [(("go", 1), False), NOTE, (("go", 3), False), (("go", 2), False)]})))
        self.assertIsNone(apart_by(Code({"main": [OVER]}), Code({"main": [(("over",), False)]})))
        self.assertEqual(apart_by(Code({"main": [OVER]}), stays), ([ends], "can", 0))

    def test_programs_and_code(self):
        one = Program(nest({"a": [("pick", [[("note", "x")], [("note", "y")]])]}))
        other = Program([("pick", [nest({"a": [("note", "x")]}), nest({"b": [("note", "y")]})])])
        self.assertEqual(apart_by(one, other), ([("note", "a", "y")], "can", 0))
        self.assertEqual(apart_by(compiled(other), one), ([("note", "a", "y")], "can", 1))
        self.assertIsNone(apart_by(one, compiled(one)))
        self.assertIsNone(apart_by(Program([]), Program([])))
        self.assertEqual(paper(Program([]), Code({"main": [OVER]})), [
            (((0, (("ended", "main"),)),), ((0, (("ended", "main"),)),)), (((0, ()),), ((0, ()),))])

    def test_by_all_orders_of_codes(self):
        found = {}
        for seed, code in enumerate(all_codes(range(1600))):
            rows = on_rows(code)
            one = code_edges(code, 60)
            if one is None or not rows:
                continue
            luck = random.Random(seed)
            cuts = luck.sample(rows, min(len(rows), luck.randint(1, 3)))
            cut = cut_code(code, cuts)
            other = code_edges(cut, 60)
            both = [all_rows(told, 1500) for told in (one, other) if told is not None]
            if len(both) == 2 and None not in both:
                apart = apart_by(code, cut)
                self.assertEqual(apart, first_difference(*both))
                self.check_paper(code, cut, apart)
                found[apart and apart[1]] = found.get(apart and apart[1], 0) + 1
        self.assertGreater(found["can"], 40)
        self.assertGreater(found[None], 400)

    def check_paper(self, one, other, apart):
        told = paper(one, other)
        self.assertEqual(told is None, apart is not None)
        if told is not None:
            self.assertIs(is_paper(one, other, told), True)
            for at in range(len(told)):
                self.assertIs(is_paper(one, other, told[:at] + told[at + 1:]), False)

    def test_by_all_orders_of_programs(self):
        found = {}
        programs = []
        for seed in range(400):
            program = made_up(seed, many=2, most=2)
            told = program_edges(program, 60)
            rows = None if told is None else all_rows(told, 800)
            if rows is not None:
                programs.append((program, rows))
        for at in range(1, len(programs)):
            one, other = programs[at - 1], programs[at]
            apart = apart_by(one[0], other[0])
            self.assertEqual(apart, first_difference(one[1], other[1]))
            found[apart and apart[1]] = found.get(apart and apart[1], 0) + 1
        self.assertGreater(found["can"], 100)
        self.assertGreater(found["rest"], 5)


class PaperTest(unittest.TestCase):

    def setUp(self):
        self.code = example_81()
        self.cut = cut_code(self.code, [("main", 2)])
        self.paper = paper(self.code, self.cut)

    def test_told(self):
        self.assertEqual(self.paper[0], (((0, ()), (1, ()), (2, ())), ((0, ()), (1, ()), (2, ()))))
        self.assertEqual(len(self.paper), 16)
        told = [pair[0] for pair in self.paper]
        self.assertTrue(all(list(lot) == sorted(set(lot)) for lot in told))
        # Behind an "apart" two more events of the step are still to come.
        self.assertIn(((8, (("ended", "b"), ("ended", "a"))),), told)
        paper(self.code, self.cut).clear()
        self.assertEqual(paper(one=self.code, other=self.cut), self.paper)

    def test_any_object(self):
        self.assertIs(is_paper(one=self.code, other=self.cut, thing=self.paper), True)
        as_lists = [[[[number, [list(event) for event in left]] for number, left in lot] for lot in pair]
                    for pair in self.paper]
        self.assertIs(is_paper(self.code, self.cut, tuple(as_lists)), True)
        self.assertIs(is_paper(self.code, self.cut, self.paper[::-1]), True)
        for thing in any_objects():
            self.assertIs(is_paper(self.code, self.cut, thing), False)
            self.assertIs(is_paper(self.code, self.cut, self.paper + [thing]), thing in ([[], []], ([], [])))
            self.assertIs(is_paper(self.code, self.cut, self.paper + [(thing, self.paper[0][1])]), False)
        lot = self.paper[0][0]
        for wrong in (lot[::-1], lot + lot[-1:], [(True, ())], [(0, ()), (99, ())], [(-1, ())], [(0, (MEETS,))], [(0, (), 0)],
                      [(0, [("meets", 1)])], [0], [(0, None)], [(0, [None])], [(0, [("meets", [])])], [(0, ["note"])],
                      [(0, ()), (0, ())], [(None, ())], [([], ())], {0: (0, ())}):
            self.assertIs(is_paper(self.code, self.cut, self.paper + [(wrong, wrong)]), False)
        self.assertIs(is_paper(self.code, self.cut, self.paper + self.paper[3:4]), False)

    def test_more_pairs(self):
        # A paper may have pairs that no row leads to: none of spots, and such as are not all at which one can be.
        self.assertIs(is_paper(self.code, self.code, paper(self.code, self.code) + [([], ())]), True)
        self.assertIs(is_paper(self.code, self.cut, self.paper + [(((0, ()),), ((0, ()),))]), True)
        self.assertIs(is_paper(self.code, self.cut, self.paper + [(((0, ()),), ((0, ()), (1, ())))]), True)
        # Own spots alone are looked at for rest.
        ends = Code({"main": [(("pick", (1, 2)), False), NOTE, (("take", "e"), False), OVER]})
        told = paper(ends, ends)
        self.assertIs(is_paper(ends, ends, told), True)
        self.assertIs(is_paper(ends, ends, told + [(((0, ()),), ((0, ()), (1, ())))]), True)
        self.assertIs(is_paper(ends, ends, told + [(((0, ()),), ((0, ()), (2, ())))]), False)
        self.assertIs(is_paper(ends, ends, told + [(((0, ()), (2, ())), ((0, ()), (1, ()), (2, ())))]), True)
        # Without a first pair, or one that leads on otherwise, it is none.
        self.assertIs(is_paper(self.code, self.cut, self.paper[1:]), False)
        self.assertIs(is_paper(self.code, self.cut, self.paper + [(((0, ()),), ((5, ()),))]), False)

    def test_rounds(self):
        one = Code({"main": [NOTE, (("pick", (1, 2)), False), (("take", "e"), False), OVER]})
        other = Code({"main": [NOTE, (("take", "e"), False), OVER]})
        self.assertIsNone(paper(one, other))
        made = [(((0, ()),), ((0, ()),)), (((1, ()), (2, ())), ((1, ()),))]
        self.assertIs(is_paper(one, other, made), False)
        self.assertIs(is_paper(other, other, [(((0, ()),), ((0, ()),)), (((1, ()),), ((1, ()),))]), True)


class CutsTest(unittest.TestCase):

    def test_cut_code(self):
        code = example_81()
        cut = cut_code(cuts=(["b", 2], ("main", 2)), code=code)
        self.assertEqual([cut.rows("b")[2], cut.rows("main")[2], cut.rows("b")[3]],
                         [(("free",), False), (("over",), False), (("over",), True)])
        self.assertEqual(cut_code(code, []), code)
        self.assertEqual(cut.things(), code.things())
        self.assertEqual(cut_code(cut, [("b", 3)]), cut_code(code, [("b", 3), ("b", 2), ("main", 2)]))

    def test_errors(self):
        code = example_81()
        for thing in any_objects():
            for work in (cut_code, cut_shows):
                error = raised(work, code, thing)
                if not isinstance(thing, (list, tuple)) or thing:
                    self.assertIsInstance(error, BadCuts)
                    self.assertEqual(error.index, 0)
                error = raised(work, code, [("b", 2), thing, "bad"])
                self.assertIsInstance(error, BadCuts)
                self.assertEqual(error.index, 1)
        for cut in (("b", 0), ("b", 4), ("b", -1), ("b", True), ("z", 2), (None, 2), ("b", None), ("b", 2, 0), ("b", 2)):
            self.assertEqual(raised(cut_code, code, [("b", 2), cut]).index, 1)
        cut = cut_code(code, [("b", 2)])
        self.assertEqual(raised(cut_code, cut, [("b", 2)]).index, 0)

    def test_unseen_cuts(self):
        code = example_81()
        self.assertEqual(unseen_cuts(code=code), unseen_by_all(code))
        self.assertEqual(unseen_cuts(Code({"main": [NOTE, (("over",), False)]})), [()])
        many = {}
        for code in all_codes(range(300)):
            rows = on_rows(code)
            if len(rows) <= 5 and code_edges(code, 60) is not None:
                cut = [cut_code(code, lot) for many_cut in range(len(rows) + 1) for lot in combinations(rows, many_cut)]
                if None not in [code_edges(one, 200) for one in cut]:
                    unseen = unseen_cuts(code)
                    self.assertEqual(unseen, unseen_by_all(code))
                    many[len(unseen[0]) == len(rows)] = many.get(len(unseen[0]) == len(rows), 0) + 1
        self.assertGreater(min(many[is_all] for is_all in (False, True)), 5)

    def test_a_lot_within_one_that_shows_nothing(self):
        # Behind "free" b ends at once, and a behind it; with "free" cut a comes first, but if it is cut, too.
        code = Code({"main": [(("nest", ["a", "b"]), False), (("close",), False), (("over",), False)],
                     "a": [(("call", "b", "e", 1), False), OVER],
                     "b": [(("take", "e"), False), (("free",), True), (("set", "f", True), True), OVER]})
        self.assertEqual(unseen_cuts(code), [(("a", 1), ("b", 1))])
        self.assertEqual(unseen_by_all(code), [(("a", 1), ("b", 1))])
        apart = ("apart", "a", "b", "e")
        for lot in ([("b", 1)], [("b", 1), ("b", 2)], [("b", 2), ("a", 1), ("b", 1)]):
            self.assertEqual(cut_shows(code, lot), ([MEETS, apart, ("ended", "a")], "can", 1))
        self.assertIsNone(cut_shows(code, [("a", 1)]))


def unseen_by_all(code):
    rows = sorted(on_rows(code))
    found = [lot for number in range(len(rows) + 1) for lot in combinations(rows, number)
             if cut_shows(code, lot) is None]
    return sorted(lot for lot in found if not any(set(lot) < set(more) for more in found))


if __name__ == "__main__":
    unittest.main()
