"""Calls ahead of the first create, and that a failed call leaves the state as it was."""

import unittest

from support import (LARGEST, add_pit, ask, balance, countercurrent_gain, create, days_needed, deviation,
                     get_strengths, pits_needed, portions_lot, preview_days, remove_pit, run_day, run_days, set_fresh,
                     set_raw, set_strength, status, steady_discharge, steady_lot, steady_state)

RIGHT = [set_fresh(1, 2), set_raw(1, 2), set_strength(0, 1, 2), run_day(), run_days(1), get_strengths(),
         steady_state(), steady_lot(1), steady_discharge(1), portions_lot(1), deviation(), balance(),
         pits_needed(1, 2), days_needed(1, 2), preview_days(1), add_pit(), remove_pit(0), countercurrent_gain(1),
         status()]
WRONG = [set_fresh(101, 1), set_fresh(1, 0), set_raw(LARGEST, 1), set_raw(1, 101), set_strength(6, 1, 1),
         set_strength(0, 101, 1), set_strength(0, 1, 0), set_strength(LARGEST, LARGEST, LARGEST), run_days(0),
         run_days(25), run_days(LARGEST), steady_lot(0), steady_lot(7), steady_discharge(0),
         steady_discharge(LARGEST), portions_lot(0), portions_lot(7), pits_needed(101, 1), pits_needed(1, 0),
         pits_needed(100, 1), days_needed(1, 101), days_needed(LARGEST, 1), days_needed(100, 1), preview_days(0),
         preview_days(25), remove_pit(6), remove_pit(LARGEST), countercurrent_gain(0), countercurrent_gain(LARGEST)]


class NoLine(unittest.TestCase):
    def test_each_call_alone(self):
        for call in RIGHT + WRONG:
            self.assertEqual(ask(call), [[-11]])

    def test_all_of_them_behind_one_another(self):
        self.assertEqual(ask(*RIGHT, *WRONG), [[-11]] * len(RIGHT + WRONG))

    def test_after_a_refused_create(self):
        for call in RIGHT + WRONG:
            self.assertEqual(ask(create(7, 1, 1), call), [[-22], [-11]])

    def test_leaves_nothing_to_the_line_that_follows(self):
        found = ask(*RIGHT, create(2, 1, 1), get_strengths(), set_fresh(1, 1), set_raw(0, 1), run_days(24))
        self.assertEqual(found[len(RIGHT):-1], [[0], [2, 0, 1, 0, 1], [0, 1, 1], [0, 0, 1]])
        self.assertEqual(found[-1], ask(create(2, 1, 1), run_days(24))[-1])


class StateIsKept(unittest.TestCase):
    ahead = [create(3, 4, 7), set_fresh(9, 8), set_raw(1, 6), set_strength(1, 2, 3), run_days(2)]
    behind = [balance(), get_strengths(), status(), steady_state(), steady_lot(2), run_day(), set_fresh(1, 1),
              set_raw(0, 1), run_days(21), balance(), run_day()]

    def test_after_each_failed_call(self):
        kept = ask(*self.ahead, *self.behind)
        self.assertEqual(kept[-2][0], 24)
        self.assertEqual(kept[-1], [-28])
        for call in WRONG + [create(0, 1, 1), create(1, 51, 1), run_days(23)]:
            found = ask(*self.ahead, call, *self.behind)
            self.assertEqual(len(found[5]), 1)
            self.assertIn(found[5][0], (-2, -22, -28, -33))
            self.assertEqual(found[:5] + found[6:], kept)

    def test_after_a_25th_day(self):
        full = [create(3, 4, 7), run_days(24)]
        kept = ask(*full, balance(), get_strengths(), status())
        for call in (run_day(), run_days(1), run_days(24)):
            found = ask(*full, call, balance(), get_strengths(), status())
            self.assertEqual(found[2], [-28])
            self.assertEqual(found[:2] + found[3:], kept)

    def test_after_a_7th_pit(self):
        full = [create(6, 4, 7), set_strength(5, 1, 2), run_days(3)]
        kept = ask(*full, balance(), get_strengths(), status())
        found = ask(*full, add_pit(), balance(), get_strengths(), status())
        self.assertEqual(found[3], [-28])
        self.assertEqual(found[:3] + found[4:], kept)

    def test_after_the_only_pit(self):
        single = [create(1, 4, 7), set_strength(0, 1, 2), run_days(3)]
        kept = ask(*single, balance(), get_strengths(), status())
        for pit, code in ((0, -33), (1, -2), (LARGEST, -2)):
            found = ask(*single, remove_pit(pit), balance(), get_strengths(), status())
            self.assertEqual(found[3], [code])
            self.assertEqual(found[:3] + found[4:], kept)


if __name__ == "__main__":
    unittest.main()
