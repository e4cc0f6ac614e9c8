"""preview_days."""

import unittest
from math import gcd

from support import (LARGEST, add_pit, ask, balance, create, get_strengths, last, modelled, preview_days, remove_pit,
                     run_day, run_days, set_fresh, set_raw, set_strength, status)

BEGINNING = [create(4, 3, 2), set_fresh(9, 8), set_raw(1, 6), set_strength(1, 2, 3)]


class PreviewDays(unittest.TestCase):
    def test_known_values(self):
        self.assertEqual(ask(create(2, 1, 1), preview_days(1), preview_days(2), preview_days(3))[1:],
                         [[2, 0, 1, 1, 2], [2, 1, 4, 1, 2], [2, 1, 4, 5, 8]])

    def test_same_as_the_days_run(self):
        for count in range(1, 25):
            self.assertEqual(last(*BEGINNING, preview_days(count)), last(*BEGINNING, run_days(count)))

    def test_every_number_of_pits(self):
        for pits in range(1, 7):
            self.assertEqual(last(create(pits, 5, 4), preview_days(7)), last(create(pits, 5, 4), run_days(7)))

    def test_days_ahead_of_those_run_already(self):
        for before in (1, 12, 23):
            self.assertEqual(last(*BEGINNING, run_days(before), preview_days(24 - before)),
                             last(*BEGINNING, run_days(24)))

    def test_however_many_days_have_been_run(self):
        for before in (1, 23, 24):
            for count in (1, 2, 23, 24):
                calls = [*BEGINNING, run_days(before), preview_days(count)]
                found = last(*calls)
                self.assertEqual(len(found), 9)
                self.assertEqual(found, modelled(*calls)[-1])

    def test_outside_the_limits(self):
        for count in (0, 25, LARGEST):
            for days in ([], [run_day()], [run_days(24)]):
                self.assertEqual(last(*BEGINNING, *days, preview_days(count)), [-22])

    def test_changes_nothing(self):
        for count in (0, 1, 24, 25, LARGEST):
            for days in ([], [run_day()], [run_days(24)]):
                found = ask(*BEGINNING, *days, get_strengths(), balance(), status(), preview_days(count),
                            get_strengths(), balance(), status())
                self.assertEqual(found[-3:], found[-7:-4])

    def test_the_days_left_are_left(self):
        found = ask(create(2, 1, 1), preview_days(24), run_days(24), preview_days(24), run_day())
        self.assertEqual(found[1], found[2])
        self.assertEqual(found[4], [-28])

    def test_follows_added_and_removed_pits(self):
        self.assertEqual(ask(create(1, 1, 1), set_strength(0, 1, 2), add_pit(), preview_days(1), remove_pit(0),
                             preview_days(1))[3::2], [[2, 0, 1, 3, 4], [1, 1, 2]])

    def test_zero_is_0_1(self):
        self.assertEqual(last(create(2, 7, 9), set_fresh(0, 100), preview_days(24)), [2, 0, 1, 0, 1])

    def test_numbers_beyond_64_bits_in_lowest_terms(self):
        calls = [create(6, 49, 50), set_fresh(97, 89), set_raw(1, 83), run_days(24), preview_days(24)]
        found = last(*calls)
        self.assertGreater(min(found[1:]), 2 ** 64)
        for k in range(1, len(found), 2):
            self.assertEqual(gcd(found[k], found[k + 1]), 1)
        self.assertEqual(found, modelled(*calls)[-1])


if __name__ == "__main__":
    unittest.main()
