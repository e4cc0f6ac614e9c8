"""run_day and run_days."""

import unittest
from math import gcd

from support import (LARGEST, ask, create, get_strengths, last, modelled, run_day, run_days, set_fresh, set_raw,
                     set_strength)


class OneDay(unittest.TestCase):
    def test_what_leaves_is_as_strong_as_before_the_day(self):
        self.assertEqual(last(create(3, 1, 1), set_strength(0, 1, 5), set_strength(1, 1, 6), set_strength(2, 1, 7),
                              run_day()), [0, 1, 7, 1, 5])

    def test_a_single_pit_mixes_fresh_with_raw(self):
        self.assertEqual(ask(create(1, 3, 2), set_fresh(4, 5), set_raw(1, 5), set_strength(0, 2, 3), run_day(),
                             get_strengths())[4:], [[0, 2, 3, 2, 3], [1, 14, 25]])

    def test_lots_go_up_and_liquor_goes_down(self):
        self.assertEqual(ask(create(3, 1, 2), set_strength(1, 1, 1), set_fresh(0, 1), run_day(), get_strengths())[3:],
                         [[0, 0, 1, 0, 1], [3, 1, 3, 0, 1, 2, 3]])

    def test_zero_stays_0_1(self):
        self.assertEqual(ask(create(2, 7, 9), set_fresh(0, 100), run_day(), get_strengths())[2:],
                         [[0, 0, 1, 0, 1], [2, 0, 1, 0, 1]])

    def test_no_more_than_24(self):
        found = ask(create(2, 3, 5), *[run_day()] * 26, get_strengths())
        self.assertEqual(found[:25], modelled(create(2, 3, 5), *[run_day()] * 24))
        self.assertEqual(found[25:27], [[-28], [-28]])
        self.assertEqual(found[27], last(create(2, 3, 5), run_days(24)))

    def test_the_24th_day_behind_run_days(self):
        found = ask(create(2, 3, 5), run_days(23), run_day(), run_day())
        self.assertEqual(len(found[2]), 5)
        self.assertEqual(found[3], [-28])


class ManyDays(unittest.TestCase):
    def test_same_as_single_days(self):
        for count in (1, 2, 3, 12, 23, 24):
            self.assertEqual(last(create(4, 3, 2), run_days(count)),
                             last(create(4, 3, 2), *[run_day()] * count, get_strengths()))

    def test_state_is_what_it_answers(self):
        found = ask(create(4, 3, 2), run_days(5), get_strengths())
        self.assertEqual(found[1], found[2])

    def test_outside_the_limits(self):
        for count in (0, 25, LARGEST):
            self.assertEqual(ask(create(2, 1, 1), run_days(count), get_strengths())[1:], [[-22], [2, 0, 1, 0, 1]])

    def test_no_more_than_24_in_total(self):
        for before in range(1, 25):
            refused = ask(create(2, 1, 1), run_days(before), run_days(25 - before), get_strengths())
            self.assertEqual(refused[2], [-28])
            self.assertEqual(refused[3], refused[1])
            if before < 24:
                self.assertEqual(last(create(2, 1, 1), run_days(before), run_days(24 - before)),
                                 last(create(2, 1, 1), run_days(24)))

    def test_refused_days_do_not_count(self):
        found = ask(create(2, 1, 1), run_days(20), run_days(5), run_days(24), run_days(0), run_days(4), run_day())
        self.assertEqual([answer[0] for answer in found], [0, 2, -28, -28, -22, 2, -28])
        self.assertEqual(found[5], last(create(2, 1, 1), run_days(24)))

    def test_limits_come_ahead_of_the_days_left(self):
        for count in (0, 25, LARGEST):
            self.assertEqual(last(create(2, 1, 1), run_days(24), run_days(count)), [-22])
        self.assertEqual(last(create(2, 1, 1), run_days(24), run_days(1)), [-28])

    def test_create_begins_the_days_anew(self):
        found = ask(create(2, 1, 1), run_days(24), create(2, 1, 1), run_days(24), run_day())
        self.assertEqual(found[3], found[1])
        self.assertEqual(found[4], [-28])


class LargeNumbers(unittest.TestCase):
    def test_numbers_beyond_64_bits_in_lowest_terms(self):
        calls = [create(6, 49, 50), set_fresh(97, 89), set_raw(1, 83), set_strength(3, 79, 73), run_days(24)]
        found = last(*calls)
        self.assertGreater(min(found[1:]), 2 ** 64)
        for k in range(1, len(found), 2):
            self.assertEqual(gcd(found[k], found[k + 1]), 1)
        self.assertEqual(found, modelled(*calls)[-1])


if __name__ == "__main__":
    unittest.main()
