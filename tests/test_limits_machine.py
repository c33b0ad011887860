"""Point 81: code at its limits, all questions of it."""

import unittest

from meettasks.codes import cut_code
from meettasks.compiling import compiled
from meettasks.cuts import unseen_cuts
from meettasks.papers import apart_by, is_paper, paper
from meettasks.shorter import needed_flags, rows_coming, short_code
from meettasks.smallruns import small_events, small_orders
from tests.makers import made_up, servers
from tests.test_papers import on_rows


class MachineLimitsTest(unittest.TestCase):

    def test_three_hundred_stands(self):
        sizes = []
        for program in (made_up(5, many=4, most=4), servers(774), servers(2396)):
            code = compiled(program)
            sizes.append(len(small_orders(code)))
            self.assertIsNone(apart_by(program, code))
            short = short_code(code)
            self.assertTrue(is_paper(code, short, paper(code, short)))
            self.assertEqual(len(rows_coming(short)), len(set(rows_coming(short))))
            for task in code.tasks():
                for number in range(len(code.rows(task))):
                    needed_flags(code, task, number)
            self.assertTrue(all(small_events(code, order) is not None for order in small_orders(code)[-20:]))
        self.assertGreater(min(sizes), 200)

    def test_six_rows_that_are_on(self):
        code = compiled(servers(2538))
        six = cut_code(code, on_rows(code)[:-6])
        self.assertEqual([len(on_rows(six)), len(small_orders(six))], [6, 289])
        unseen = unseen_cuts(six)
        self.assertTrue(all(apart_by(six, cut_code(six, lot)) is None for lot in unseen))


if __name__ == "__main__":
    unittest.main()
