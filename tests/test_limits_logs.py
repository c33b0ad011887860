"""Point 89: logs at their limits."""

import random
import unittest

from meettasks.apartlogs import ahead_of, fitting_order
from meettasks.guesses import happened, happened_runs, places_behind, possible_lines, sure_lines
from meettasks.logs import first_misfit, fitting_run, is_log, stands_behind
from meettasks.logwords import kinds_apart, log_apart
from meettasks.quarrels import doubted, quarrels
from meettasks.runs import Run
from meettasks.standing import first_orders, steps_at
from tests.makers import made_up, markets, servers


def long_run(program, seed, many):
    """The events of a run of so many steps."""
    luck = random.Random(seed)
    at, steps = 0, []
    while len(steps) < many:
        step, at = luck.choice(steps_at(program, at))
        steps.append(step)
    return Run(program, steps).events()


def long_log(events, lines, seed):
    """A log of so many lines, the greater part of the events being lost."""
    luck = random.Random(seed)
    found, at = [], 0
    while len(found) < lines:
        many = luck.randint(20, 100)
        found += [("gap", luck.choice([many, many, many, None])), events[at + many]]
        at += many + 1
    return found


class LongLogsTest(unittest.TestCase):

    def test_two_hundred_lines(self):
        for program, seed in ((servers(743), 3), (servers(467), 4), (markets(967), 5)):
            self.assertGreater(len(first_orders(program)), 200)
            events = long_run(program, seed, 30000)
            log = long_log(events, 200, seed)
            steps = fitting_run(program, log)
            run = Run(program, steps)
            self.assertGreater(len(run.events()), 1000)
            self.assertEqual(run.events()[-1:] == log[-1:] or log[-1] in run.events()[-9:], True)
            self.assertGreater(stands_behind(program, log), 0)
            self.assertIsNone(first_misfit(program, log))
            possible = possible_lines(program, log, 7)
            self.assertLessEqual(set(sure_lines(program, log, 7)), set(possible))
            self.assertIn(happened(program, log, 7, possible[0]), ("sure", "open"))
            self.assertIsNotNone(happened_runs(program, log, 60, possible[-1]))
            self.assertTrue(all(places_behind(program, log, task) for task in program.tasks()))
            self.assertEqual(first_misfit(program, log + [("gap", 100), ("ended", "main")]), 201)

    def test_eight_events(self):
        program = servers(467)
        events = long_run(program, 1, 2000)
        log = [("gap", 100)] * 96 + events[:8] + [("gap", 99)] * 96
        found, others = quarrels(program, log), doubted(program, log)
        self.assertTrue(all(set(one) & set(other) for one in found for other in others))
        self.assertEqual(found == [], others == [()])

    def test_gaps_of_any_number(self):
        self.assertIs(is_log([("gap", 10 ** 18)] * 200), True)
        program = made_up(5, many=4, most=4)
        self.assertEqual([fitting_run(program, [("gap", 10 ** 18)]), stands_behind(program, [("gap", 10 ** 18)])], [None, 0])
        self.assertGreater(stands_behind(servers(743), [("gap", 10 ** 18)]), 0)

    def test_single_tasks(self):
        program = markets(967)
        events = long_run(program, 5, 400)
        tasks = [task for task in program.tasks() if len([event for event in events if event[1] == task]) >= 10][:3]
        apart = {task: [event for event in events if event[1] == task][:10] for task in tasks}
        self.assertGreater(len(tasks), 1)
        steps = fitting_order(program, apart)
        for task in tasks:
            mine = [event for event in Run(program, steps).events() if event[1] == task]
            self.assertEqual(mine[:10], apart[task])
        self.assertEqual(ahead_of(program, apart, (tasks[0], 0), (tasks[0], 9)), "sure")
        self.assertIn(ahead_of(program, apart, (tasks[0], 5), (tasks[1], 5)), ("sure", "open", "never"))

    def test_which_of_two(self):
        one, other = made_up(5, many=4, most=4), servers(467)
        self.assertEqual(kinds_apart(one, one), [])
        for lot in kinds_apart(one, other):
            self.assertIsNotNone(log_apart(one, other, lot))


if __name__ == "__main__":
    unittest.main()
