"""Point 27: ending together."""

import unittest

from meettasks.endings import bars, ending
from meettasks.errors import NoTask, NotClosing
from meettasks.programs import Program
from meettasks.runs import Run
from tests.makers import example_26, nest, small_programs
from tests.objects import any_objects, raised
from tests.plain import world_of

BEGIN = ("main", "begin")
END = ("offer", [(None, "e", [])], ("end",))


class EndingTest(unittest.TestCase):

    def test_told(self):
        tasks = {"d": [END], "c": nest({"p": [("note", "x")], "q": [END]}), "b": [("offer", [(None, "e", [])], None)],
                 "a": []}
        run = Run(Program(nest(tasks)), [BEGIN])
        self.assertEqual([bars(run, "main"), ending(run, "main")], [["b", "c"], ["d"]])
        run = run.more([("c", "begin")])
        self.assertEqual([bars(run, "main"), ending(run, "main")], [["b", "p"], ["d", "q"]])
        self.assertEqual([bars(run=run, task="c"), ending(task="c", run=run)], [["p"], ["q"]])
        run = run.more([("p", "note")])
        self.assertEqual([bars(run, "c"), ending(run, "c")], [[], ["q"]])
        self.assertEqual(run.let(), [("c", "ends")])
        run = run.more([("c", "ends")])
        self.assertEqual([bars(run, "c"), ending(run, "c"), bars(run, "main")], [[], [], ["b"]])

    def test_errors(self):
        run = Run(example_26(), [BEGIN])
        for work in (bars, ending):
            for task in any_objects():
                if task != "main":
                    error = raised(work, run, task)
                    self.assertIsInstance(error, NoTask)
                    self.assertIs(error.task, task)
            for task in ("s", "x"):
                error = raised(work, run, task)
                self.assertIsInstance(error, NotClosing)
                self.assertEqual(error.task, task)
            self.assertIsInstance(raised(work, Run(example_26()), "main"), NotClosing)
            self.assertIsInstance(raised(work, Run(Program([])), "main"), NotClosing)

    def test_facts(self):
        ends = 0
        for program in small_programs(150, range(1700, 4000), 60):
            for run in world_of(program).runs:
                for task in program.tasks():
                    if run.how(task) != "closing":
                        self.assertIsInstance(raised(bars, run, task), NotClosing)
                        continue
                    together = ending(run, task)
                    can = bars(run, task) == [] and together != []
                    self.assertEqual((task, "ends") in run.let(), can)
                    if can:
                        ends += 1
                        self.check_ends(run, task, together)
        self.assertGreater(ends, 5)

    def check_ends(self, run, task, together):
        further = run.more([(task, "ends")])
        new = further.events()[len(run.events()):]
        self.assertEqual(sorted(event[1] for event in new), sorted(together))
        self.assertEqual({event[0] for event in new}, {"ended"})
        for one in together:
            self.assertEqual(further.place(one), "ended")


if __name__ == "__main__":
    unittest.main()
