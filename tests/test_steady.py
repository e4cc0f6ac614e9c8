"""steady_state, steady_lot and steady_discharge."""

import unittest
from fractions import Fraction

from support import (LARGEST, ask, create, fractions_in, get_strengths, last, modelled, run_day, run_days, set_fresh,
                     set_raw, set_strength, steady_discharge, steady_lot, steady_state)

ALL_PITS = range(1, 7)


class SteadyState(unittest.TestCase):
    def test_equal_amounts_step_evenly(self):
        self.assertEqual(last(create(1, 1, 1), steady_state()), [1, 1, 2])
        self.assertEqual(last(create(3, 7, 7), steady_state()), [3, 1, 4, 1, 2, 3, 4])
        self.assertEqual(last(create(6, 50, 50), steady_state()), [6, 1, 7, 2, 7, 3, 7, 4, 7, 5, 7, 6, 7])

    def test_unequal_amounts(self):
        self.assertEqual(last(create(2, 2, 1), steady_state()), [2, 4, 7, 6, 7])
        self.assertEqual(last(create(2, 1, 2), steady_state()), [2, 1, 7, 3, 7])

    def test_between_raw_and_fresh(self):
        self.assertEqual(last(create(2, 1, 2), set_fresh(8, 1), set_raw(1, 1), steady_state()), [2, 2, 1, 4, 1])
        self.assertEqual(last(create(2, 1, 2), set_fresh(1, 1), set_raw(8, 1), steady_state()), [2, 7, 1, 5, 1])

    def test_zero_is_0_1(self):
        self.assertEqual(last(create(2, 3, 4), set_fresh(0, 5), steady_state()), [2, 0, 1, 0, 1])
        self.assertEqual(last(create(1, 3, 4), set_fresh(0, 5), steady_lot(6)), [0, 0, 1])
        self.assertEqual(last(create(1, 3, 4), set_fresh(0, 5), steady_discharge(6)), [0, 0, 1])

    def test_solves_what_a_day_must_not_change(self):
        for pits in ALL_PITS:
            for liquor, lot in ((1, 1), (1, 50), (50, 1), (50, 50), (49, 50), (6, 4)):
                for fresh, raw in (((1, 1), (0, 1)), ((97, 89), (1, 83)), ((1, 100), (100, 1)), ((0, 1), (0, 1))):
                    calls = [create(pits, liquor, lot), set_fresh(*fresh), set_raw(*raw), steady_state()]
                    self.assertEqual(ask(*calls), modelled(*calls))

    def test_does_not_rest_on_the_pits_or_the_days(self):
        self.assertEqual(last(create(3, 4, 5), set_strength(1, 9, 7), run_days(24), steady_state()),
                         last(create(3, 4, 5), steady_state()))

    def test_asking_changes_nothing(self):
        asked = ask(create(2, 1, 1), run_day(), steady_state(), steady_lot(5), steady_discharge(5), get_strengths(),
                    set_fresh(1, 1), set_raw(0, 1), run_days(23))
        self.assertEqual(asked[5:], [[2, 0, 1, 1, 2], [0, 1, 1], [0, 0, 1], last(create(2, 1, 1), run_days(24))])


class LotAndDischarge(unittest.TestCase):
    def test_ends_of_the_steady_state(self):
        for pits in ALL_PITS:
            for liquor, lot in ((1, 1), (1, 50), (50, 1), (37, 41)):
                settings = [set_fresh(97, 3), set_raw(2, 7)]
                steady = last(create(pits, liquor, lot), *settings, steady_state())
                for own in ALL_PITS:
                    found = ask(create(own, liquor, lot), *settings, steady_lot(pits), steady_discharge(pits))
                    self.assertEqual(found[3:], [[0] + steady[-2:], [0] + steady[1:3]])

    def test_known_values(self):
        self.assertEqual(ask(create(2, 2, 1), steady_lot(1), steady_lot(2), steady_lot(3))[1:],
                         [[0, 2, 3], [0, 6, 7], [0, 14, 15]])
        self.assertEqual(ask(create(2, 2, 1), steady_discharge(1), steady_discharge(2), steady_discharge(3))[1:],
                         [[0, 2, 3], [0, 4, 7], [0, 8, 15]])

    def test_outside_the_limits(self):
        for pits in (0, 7, LARGEST):
            self.assertEqual(ask(create(2, 1, 1), steady_lot(pits), steady_discharge(pits), get_strengths())[1:],
                             [[-22], [-22], [2, 0, 1, 0, 1]])

    def test_every_pair_of_amounts(self):
        for liquor in range(1, 51):
            for lot in range(1, 51):
                # The strengths of one pit and of two, from the equations of a day by hand.
                two = liquor * liquor + liquor * lot + lot * lot
                self.assertEqual([fractions_in(answer) for answer in ask(
                    create(1, liquor, lot), steady_lot(1), steady_discharge(1), steady_lot(2), steady_discharge(2))],
                    [[], [Fraction(liquor, liquor + lot)], [Fraction(liquor, liquor + lot)],
                     [Fraction(liquor * (liquor + lot), two)], [Fraction(liquor * liquor, two)]])


if __name__ == "__main__":
    unittest.main()
