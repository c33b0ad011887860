"""Point 88: which kinds of events tell two programs apart."""

import unittest
from itertools import combinations

from meettasks.errors import BadKinds
from meettasks.logwords import kinds_apart, log_apart
from meettasks.programs import Program
from meettasks.programtexts import read_program, write_program
from tests.makers import example_11, example_26, nest
from tests.objects import any_objects, raised
from tests.plainlogs import Runs, runs_of
from tests.test_logs import X, example_89

KINDS = ("apart", "broken", "ended", "meets", "note", "served")


def turned_89():
    return Program(nest({"a": [("note", "z"), ("pick", [[("note", "x")], [("note", "y")]])]}))


def rows_seen(runs, kinds):
    """All rows with which the events of these kinds of some run begin."""
    found = set()
    for _, events, _ in runs.rows:
        row = tuple(event for event in events if event[0] in kinds)
        found.update([row[:many] for many in range(len(row) + 1)])
    return found


class LogWordsTest(unittest.TestCase):

    def test_example(self):
        one, other = example_89(), turned_89()
        self.assertEqual(log_apart(one, other, ["note"]), [X])
        self.assertEqual(log_apart(words=("ended", "note"), other=one, one=other), [X])
        self.assertIsNone(log_apart(one, other, ["ended", "meets"]))
        self.assertIsNone(log_apart(one, other, []))
        self.assertIsNone(log_apart(one, one, KINDS))
        self.assertEqual(kinds_apart(other=one, one=other), [("note",)])
        self.assertEqual(kinds_apart(one, one), [])
        kinds_apart(one, other).clear()
        log_apart(one, other, ["note"]).clear()
        self.assertEqual([len(kinds_apart(one, other)), len(log_apart(one, other, ["note"]))], [1, 1])

    def test_two_kinds_together(self):
        one = Program(nest({"a": [], "b": [("note", "x")]}))
        other = Program(nest({"a": [("pick", [[], []])], "b": [("note", "x")]}))
        self.assertEqual(kinds_apart(one, other), [("ended",)])
        # Whether it is noted ahead of the end or behind it is seen by whoever is told of both alone.
        first = Program([("note", "x")] + nest({"a": []}))
        last = Program(nest({"a": []}) + [("note", "x")])
        self.assertEqual(kinds_apart(first, last), [("ended", "note")])
        self.assertEqual(log_apart(first, last, ["note", "ended"]), [("ended", "a")])

    def test_for_ever(self):
        one = example_26()
        self.assertIsNone(log_apart(one, one, KINDS))
        self.assertEqual(kinds_apart(one, example_11()), [("apart",), ("ended",), ("meets",), ("note",)])

    def test_against_all_runs(self):
        sorts = {}
        programs = list(runs_of(range(300), most=300))
        for at in range(1, len(programs)):
            pairs = [(programs[at - 1], programs[at])]
            changed = read_program(write_program(programs[at][0]).replace("note x", "note y", 1))
            pairs.append((programs[at], (changed, Runs(changed, 10 ** 6))))
            for one, other in pairs if at % 3 == 0 else pairs[:1]:
                self.check(one, other, sorts)
        self.assertGreater(min(sorts[many] for many in (0, 1, 2)), 5)

    def check(self, one, other, sorts):
        apart = []
        for many in range(7):
            for kinds in combinations(KINDS, many):
                rows = [rows_seen(runs, kinds) for _, runs in (one, other)]
                least = min(rows[0] ^ rows[1], key=lambda row: (len(row), row), default=None)
                if many in (0, 1, 2, 6):
                    self.assertEqual(log_apart(one[0], other[0], kinds), None if least is None else list(least))
                if least is not None and not any(set(lot) <= set(kinds) for lot in apart):
                    apart.append(kinds)
        self.assertEqual(kinds_apart(one[0], other[0]), apart)
        sorts[len(apart)] = sorts.get(len(apart), 0) + 1

    def test_errors(self):
        one = example_89()
        for thing in any_objects():
            error = raised(log_apart, one, one, thing)
            if not isinstance(thing, (list, tuple)) or thing:
                self.assertIsInstance(error, BadKinds)
                self.assertEqual(error.index, 0)
            self.assertEqual(raised(log_apart, one, one, ["note", thing, "gap"]).index, 1)
        self.assertEqual([raised(log_apart, one, one, words).index for words in (
            ["note", "note"], ["ended", "apart", "gap"], ["notes"], ["begin"])], [1, 2, 0, 0])


if __name__ == "__main__":
    unittest.main()
