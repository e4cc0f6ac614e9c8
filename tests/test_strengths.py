"""set_fresh, set_raw, set_strength and get_strengths."""

import unittest

from support import (LARGEST, ask, create, get_strengths, last, modelled, run_day, run_days, set_fresh, set_raw,
                     set_strength, steady_state)

WRONG = [(101, 1), (LARGEST, 1), (1, 0), (1, 101), (1, LARGEST), (0, 0), (101, 0), (100, 101), (LARGEST, LARGEST)]
RIGHT = [((0, 1), [0, 1]), ((0, 100), [0, 1]), ((100, 1), [100, 1]), ((100, 100), [1, 1]), ((1, 100), [1, 100]),
         ((6, 4), [3, 2]), ((50, 75), [2, 3]), ((97, 89), [97, 89]), ((99, 100), [99, 100])]


class FreshAndRaw(unittest.TestCase):
    def test_previous_value_in_lowest_terms(self):
        for call, first in ((set_fresh, [1, 1]), (set_raw, [0, 1])):
            for given, lowest in RIGHT:
                found = ask(create(1, 1, 1), call(*given), call(1, 3), call(0, 7), call(1, 1))
                self.assertEqual(found, [[0], [0] + first, [0] + lowest, [0, 1, 3], [0, 0, 1]])

    def test_outside_the_limits(self):
        for call in (set_fresh, set_raw):
            for given in WRONG:
                self.assertEqual(last(create(1, 1, 1), call(*given)), [-22])

    def test_refused_keeps_both(self):
        for call in (set_fresh, set_raw):
            for given in WRONG:
                found = ask(create(1, 1, 1), set_fresh(5, 6), set_raw(1, 6), call(*given), set_fresh(1, 1),
                            set_raw(0, 1))
                self.assertEqual(found[3:], [[-22], [0, 5, 6], [0, 1, 6]])

    def test_each_goes_where_it_belongs(self):
        calls = [create(2, 1, 3), set_fresh(1, 2), set_raw(1, 8), run_day(), get_strengths()]
        self.assertEqual(last(*calls), [2, 3, 32, 1, 8])

    def test_from_the_next_day_on(self):
        calls = [create(2, 3, 4), set_fresh(3, 7), run_days(2), set_fresh(100, 3), set_raw(50, 7), get_strengths(),
                 steady_state(), run_days(3)]
        self.assertEqual(ask(*calls), modelled(*calls))


class OnePit(unittest.TestCase):
    def test_previous_strength_in_lowest_terms(self):
        for given, lowest in RIGHT:
            found = ask(create(2, 1, 1), set_strength(1, *given), set_strength(1, 1, 3), get_strengths())
            self.assertEqual(found, [[0], [0, 0, 1], [0] + lowest, [2, 0, 1, 1, 3]])

    def test_every_pit_alone(self):
        for pits in range(1, 7):
            for pit in range(pits):
                strengths = [0, 1] * pits
                strengths[2 * pit:2 * pit + 2] = [5, 7]
                self.assertEqual(last(create(pits, 1, 1), set_strength(pit, 10, 14), get_strengths()),
                                 [pits] + strengths)

    def test_pit_that_does_not_exist(self):
        for pits in range(1, 7):
            for pit in (pits, pits + 1, 7, LARGEST):
                self.assertEqual(ask(create(pits, 1, 1), set_strength(pit, 1, 1), get_strengths())[1:],
                                 [[-2], [pits] + [0, 1] * pits])

    def test_outside_the_limits(self):
        for given in WRONG:
            self.assertEqual(ask(create(2, 1, 1), set_strength(1, 1, 3), set_strength(1, *given), get_strengths())[2:],
                             [[-22], [2, 0, 1, 1, 3]])

    def test_missing_pit_comes_ahead_of_the_limits(self):
        for given in WRONG:
            for pit in (2, LARGEST):
                self.assertEqual(last(create(2, 1, 1), set_strength(pit, *given)), [-2])

    def test_previous_strength_after_days(self):
        self.assertEqual(last(create(2, 1, 1), run_days(3), set_strength(1, 0, 1)), [0, 5, 8])

    def test_days_go_on_from_it(self):
        calls = [create(3, 2, 3), set_strength(0, 1, 2), set_strength(2, 100, 1), run_day(), run_day(),
                 set_strength(1, 0, 9), run_days(4)]
        self.assertEqual(ask(*calls), modelled(*calls))


class AllPits(unittest.TestCase):
    def test_pit_0_first(self):
        self.assertEqual(last(create(3, 1, 1), set_strength(0, 1, 2), set_strength(1, 1, 3), set_strength(2, 1, 4),
                              get_strengths()), [3, 1, 2, 1, 3, 1, 4])

    def test_asking_changes_nothing(self):
        self.assertEqual(ask(create(2, 1, 1), run_day(), get_strengths(), get_strengths(), run_day())[2:],
                         [[2, 0, 1, 1, 2], [2, 0, 1, 1, 2], [0, 1, 2, 0, 1]])


if __name__ == "__main__":
    unittest.main()
