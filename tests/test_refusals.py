"""Calls ahead of the first create, and that a failed call leaves the state as it was."""

import unittest

from support import (LARGEST, ask, create, get_strengths, run_day, run_days, set_fresh, set_raw, set_strength,
                     steady_discharge, steady_lot, steady_state)

RIGHT = [set_fresh(1, 2), set_raw(1, 2), set_strength(0, 1, 2), run_day(), run_days(1), get_strengths(),
         steady_state(), steady_lot(1), steady_discharge(1)]
WRONG = [set_fresh(101, 1), set_fresh(1, 0), set_raw(LARGEST, 1), set_raw(1, 101), set_strength(6, 1, 1),
         set_strength(0, 101, 1), set_strength(0, 1, 0), set_strength(LARGEST, LARGEST, LARGEST), run_days(0),
         run_days(25), run_days(LARGEST), steady_lot(0), steady_lot(7), steady_discharge(0),
         steady_discharge(LARGEST)]


class NoLine(unittest.TestCase):
    def test_each_call_alone(self):
        for call in RIGHT + WRONG:
            self.assertEqual(ask(call), [[-11]])

    def test_all_of_them_behind_one_another(self):
        self.assertEqual(ask(*RIGHT, *WRONG), [[-11]] * len(RIGHT + WRONG))

    def test_after_a_refused_create(self):
        for call in RIGHT + WRONG:
            self.assertEqual(ask(create(7, 1, 1), call), [[-22], [-11]])

    def test_leaves_nothing_to_the_line_that_follows(self):
        found = ask(*RIGHT, create(2, 1, 1), get_strengths(), set_fresh(1, 1), set_raw(0, 1), run_days(24))
        self.assertEqual(found[len(RIGHT):-1], [[0], [2, 0, 1, 0, 1], [0, 1, 1], [0, 0, 1]])
        self.assertEqual(found[-1], ask(create(2, 1, 1), run_days(24))[-1])


class StateIsKept(unittest.TestCase):
    ahead = [create(3, 4, 7), set_fresh(9, 8), set_raw(1, 6), set_strength(1, 2, 3), run_days(2)]
    behind = [get_strengths(), steady_state(), steady_lot(2), run_day(), set_fresh(1, 1), set_raw(0, 1),
              run_days(21), run_day()]

    def test_after_each_failed_call(self):
        kept = ask(*self.ahead, *self.behind)
        self.assertEqual(kept[-2][0], 3)
        self.assertEqual(kept[-1], [-28])
        for call in WRONG + [create(0, 1, 1), create(1, 51, 1), run_days(23)]:
            found = ask(*self.ahead, call, *self.behind)
            self.assertEqual(len(found[5]), 1)
            self.assertIn(found[5][0], (-2, -22, -28))
            self.assertEqual(found[:5] + found[6:], kept)

    def test_after_a_25th_day(self):
        full = [create(3, 4, 7), run_days(24)]
        kept = ask(*full, get_strengths(), steady_state())
        for call in (run_day(), run_days(1), run_days(24)):
            found = ask(*full, call, get_strengths(), steady_state())
            self.assertEqual(found[2], [-28])
            self.assertEqual(found[:2] + found[3:], kept)


if __name__ == "__main__":
    unittest.main()
