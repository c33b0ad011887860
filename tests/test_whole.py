"""One program through several sections: its text, its compiled code, a log of its orders, a house that keeps it."""

import random
import unittest

from meettasks.apartlogs import ahead_of, fitting_order
from meettasks.codes import cut_code
from meettasks.compiling import compiled
from meettasks.cuts import cut_shows
from meettasks.guesses import happened, places_behind, sure_lines, values_behind
from meettasks.houses import House
from meettasks.housetexts import read_house, write_house
from meettasks.lassos import waits_for_ever
from meettasks.logs import first_misfit, fitting_run, stands_behind
from meettasks.logwords import kinds_apart
from meettasks.marks import keepers
from meettasks.papers import apart_by, is_paper, paper
from meettasks.programs import Program
from meettasks.programtexts import read_program, write_program
from meettasks.quarrels import quarrels
from meettasks.runs import Run
from meettasks.sentences import breach, values_coming, values_left
from meettasks.shorter import short_code
from meettasks.sketches import Sketch, verdicts
from meettasks.slices import loose_tasks, sliced
from meettasks.slots import most_together, slots
from meettasks.smallruns import small_events, small_orders
from meettasks.standing import first_orders
from meettasks.unending import left_over, never_ends
from meettasks.wholes import how_many
from tests.makers import LOCK, count_stands, made_up, markets, nest, servers
from tests.workshop import workshop


def answers(program):
    """What all kinds of functions tell of a program."""
    found = [program.tasks(), first_orders(program), values_coming(program), values_left(program), left_over(program),
             never_ends(program, "weak"), slots(program), most_together(program), loose_tasks(program, {})]
    for task in program.tasks():
        found.append(waits_for_ever(program, task, "strong"))
    return found


class WholeTest(unittest.TestCase):

    def test_one_program(self):
        program = workshop()
        text = write_program(program)
        again = read_program(text)
        self.assertEqual([again, write_program(again)], [program, text])
        self.assertEqual(answers(again), answers(program))
        self.assertEqual(how_many(again), how_many(program))
        self.assertEqual(kinds_apart(program, again), [])

        code = compiled(again)
        self.assertEqual(small_orders(code), first_orders(program))
        self.assertTrue(is_paper(program, code, paper(program, code)))
        self.assertTrue(is_paper(program, short_code(code), paper(again, short_code(code))))
        rows = [(task, number) for task in code.tasks() for number, (_, on) in enumerate(code.rows(task)) if on]
        for row in rows:
            self.assertEqual(apart_by(program, cut_code(code, [row])), cut_shows(code, [row]))

        order = max(first_orders(program), key=lambda steps: len(Run(program, steps).events()))
        events = Run(program, order).events()
        self.assertEqual(small_events(code, order), events)
        log = [("gap", 2)] + events[2:5] + [("gap", None)] + events[-2:]
        self.check_log(program, again, log, events)

        house = House()
        house.put("shop", "program", again)
        house.put("order", "run", ("shop", order))
        house.put("log", "ask", ("fits", "shop", log))
        house.put("free", "ask", ("holds", "shop", {"lock": ["free"]}, True))
        house.put("keep", "ask", ("keepers", "shop", {"lock": ["free"]}, True, [("worker", (1,))]))
        read = read_house(write_house(house))
        self.assertEqual(read, house)
        self.assertEqual([read.held("shop"), read.run("order").events()], [program, events])
        self.assertEqual(read.told("log"), fitting_run(program, log))
        self.assertEqual(read.told("free"), breach(program, {"lock": ["free"]}, True) is None)
        self.assertEqual(read.told("keep"), keepers(program, {"lock": ["free"]}, True, [("worker", (1,))]))
        self.assertEqual(read.made(), ["log", "free", "keep"])

    def check_log(self, program, again, log, events):
        self.assertEqual(fitting_run(again, log), fitting_run(program, log))
        self.assertIsNotNone(fitting_run(program, log))
        self.assertIsNone(first_misfit(program, log))
        self.assertEqual(stands_behind(again, log), stands_behind(program, log))
        self.assertIn(happened(program, log, 0, events[0]), ("sure", "open"))
        self.assertEqual(sure_lines(again, log, 1), sure_lines(program, log, 1))
        self.assertEqual(quarrels(program, log), [])
        self.assertEqual(places_behind(program, log, "main"), places_behind(again, log, "main"))
        self.assertEqual(values_behind(program, log, "lock"), values_behind(again, log, "lock"))
        apart = {task: [event for event in events if event[1] == task] for task in ("worker", "guest")}
        self.assertEqual(fitting_order(again, apart), fitting_order(program, apart))
        self.assertEqual(ahead_of(program, apart, ("guest", 0), ("worker", 0)),
                         ahead_of(again, apart, ("guest", 0), ("worker", 0)))

    def test_slices_and_sketches(self):
        program = workshop()
        sentence = {"lock": ["free"]}
        self.assertEqual(loose_tasks(program, sentence), ["clock"])
        less = sliced(program, sentence)
        self.assertEqual(values_coming(less), values_coming(program))
        self.assertEqual(kinds_apart(program, less), [("ended",), ("note",)])
        sketch = Sketch(program.body("main"), program.things(), ["clock"])
        self.assertEqual(sketch.filled({"clock": program.body("clock")}), program)
        self.assertEqual(sketch.filled({"clock": []}), less)
        told = verdicts(sketch, ["ends", "stuck"])
        self.assertEqual(sketch.filled(told["ends"]), less)
        self.assertEqual("stuck" in verdicts(Sketch(program.body("main"), program.things()), ["stuck"]),
                         left_over(program) != [])

    def test_many_programs(self):
        for seed in range(120):
            program = (made_up, servers, markets)[seed % 3](seed)
            if count_stands(program, 60) > 60:
                continue
            again = read_program(write_program(program))
            self.assertEqual(answers(again), answers(program))
            code = compiled(again)
            self.assertIsNone(apart_by(program, code))
            self.assertIsNone(apart_by(short_code(code), program))
            luck = random.Random(seed)
            order = luck.choice(small_orders(code))
            log = small_events(code, order)
            run = fitting_run(program, log)
            self.assertEqual(Run(program, run).events()[:len(log)], log)
            self.assertLessEqual(len(run), len(order))
            house = House()
            house.put("p", "program", program)
            house.put("run", "run", ("p", order))
            house.put("ask", "ask", ("fits", "p", log))
            house.put("values", "ask", ("values", "p"))
            read = read_house(write_house(house))
            self.assertEqual([read, read.run("run"), read.told("ask")], [house, Run(program, order), run])
            self.assertEqual(read.told("values"), values_coming(program))

    def test_what_is_made_of_what_was_told(self):
        # Told things may be handed in again, as lists or tuples.
        program = Program(nest({"a": [("wait", "t", "have"), ("use", "t", "give")], "b": [("note", "x")]}), {"t": LOCK})
        code = compiled(program)
        rows = {task: code.rows(task) for task in code.tasks()}
        self.assertEqual(code, type(code)(rows, code.things()))
        self.assertEqual(Program(program.body("main"), program.things()), program)
        for order in first_orders(program):
            self.assertEqual(Run(program, order).steps(), list(order))
            self.assertIsNotNone(fitting_run(program, Run(program, order).events()))


if __name__ == "__main__":
    unittest.main()
