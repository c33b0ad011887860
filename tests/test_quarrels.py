"""Point 86: lines that cannot be true together, and lines that have to be doubted."""

import unittest
from itertools import combinations

from meettasks.errors import BadLog
from meettasks.logs import fitting_run
from meettasks.programs import Program
from meettasks.quarrels import doubted, quarrels
from tests.makers import nest
from tests.objects import any_objects, raised
from tests.plainlogs import made_up_log, runs_of
from tests.test_logs import X, Y, Z, example_89


def lots_of(events):
    return [lot for many in range(len(events) + 1) for lot in combinations(events, many)]


def least(lots):
    return [lot for lot in lots if not any(set(less) < set(lot) for less in lots)]


class QuarrelsTest(unittest.TestCase):

    def test_example(self):
        program = example_89()
        log = [X, Y]
        self.assertEqual([quarrels(program, log), doubted(program, log)], [[(1,)], [(1,)]])
        self.assertEqual([quarrels(log=[list(X), list(Y)], program=program), doubted(log=(X, Y), program=program)],
                         [[(1,)], [(1,)]])
        # Fits as it does; fits none even as gaps.
        self.assertEqual([quarrels(program, [X, Z]), doubted(program, [X, Z])], [[], [()]])
        self.assertEqual([quarrels(program, [("gap", 9), X]), doubted(program, [("gap", 9), X])], [[()], []])
        self.assertEqual([quarrels(program, []), doubted(program, [])], [[], [()]])
        # Indexes are those of lines, gaps counted.
        log = [("gap", 0), X, ("gap", 0), X, ("gap", None)]
        self.assertEqual([quarrels(program, log), doubted(program, log)], [[(3,)], [(3,)]])
        quarrels(program, log).clear()
        doubted(program, log).clear()
        self.assertEqual([quarrels(program, log), doubted(program, log)], [[(3,)], [(3,)]])

    def test_two_together(self):
        # Either of both can be true, both cannot.
        program = Program(nest({"a": [("pick", [[("note", "x"), ("note", "z")], [("note", "y"), ("note", "w")]])]}))
        log = [("gap", 0), X, ("note", "a", "w"), ("gap", None)]
        self.assertEqual([quarrels(program, log), doubted(program, log)], [[(1, 2)], [(1,), (2,)]])

    def test_against_all_runs(self):
        sorts = {}
        for seed, (program, runs) in enumerate(runs_of(range(400))):
            for number in range(3):
                log = made_up_log(runs, 30 * seed + number)[:6]
                events = [at for at, line in enumerate(log) if line[0] != "gap"]
                fits = {lot: bool(runs.fits([line if line[0] == "gap" or at in lot else ("gap", 1)
                                             for at, line in enumerate(log)])) for lot in lots_of(events)}
                found = least([lot for lot in fits if not fits[lot]])
                others = least([lot for lot in fits if fits[tuple(at for at in events if at not in lot)]])
                self.assertEqual([quarrels(program, log), doubted(program, log)], [found, others])
                sorts[len(found), max([len(lot) for lot in found], default=0)] = True
                self.check_facts(events, fits, found, others)
                self.assertEqual(others == [()], fitting_run(program, log) is not None)
        self.assertGreater(len(sorts), 4)

    def check_facts(self, events, fits, found, others):
        self.assertTrue(all(set(one) & set(other) for one in found for other in others))
        for lot in fits:
            rest = [at for at in events if at not in lot]
            self.assertEqual(fits[lot], not any(set(one) <= set(lot) for one in found))
            self.assertEqual(fits[lot], any(set(other) <= set(rest) for other in others))

    def test_errors(self):
        program = example_89()
        for thing in any_objects():
            for work in (quarrels, doubted):
                error = raised(work, program, [X, thing])
                self.assertIsInstance(error, BadLog)
                self.assertEqual(error.index, 1)


if __name__ == "__main__":
    unittest.main()
