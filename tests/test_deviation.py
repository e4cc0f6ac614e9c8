"""deviation."""

import unittest
from fractions import Fraction

from support import (add_pit, ask, create, deviation, flat, fractions_in, get_strengths, last, modelled, remove_pit,
                     run_day, run_days, set_fresh, set_raw, set_strength, steady_state)


class Deviation(unittest.TestCase):
    def test_new_line(self):
        self.assertEqual(last(create(1, 1, 1), deviation()), [0, 1, 2])
        self.assertEqual(last(create(2, 1, 1), deviation()), [0, 2, 3])
        self.assertEqual(last(create(6, 50, 50), deviation()), [0, 6, 7])

    def test_zero_is_0_1(self):
        self.assertEqual(last(create(3, 7, 9), set_fresh(0, 5), deviation()), [0, 0, 1])
        self.assertEqual(last(create(2, 1, 1), set_strength(0, 1, 3), set_strength(1, 2, 3), deviation()), [0, 0, 1])

    def test_the_greatest_over_all_pits(self):
        for pits in range(1, 7):
            for pit in range(pits):
                steady = [set_strength(k, k + 1, pits + 1) for k in range(pits)]
                # Every other pit is off by less.
                self.assertEqual(last(create(pits, 3, 3), *steady, set_strength((pit + 1) % pits, 0, 1),
                                      set_strength(pit, 9, 1), deviation()),
                                 flat(0, [9 - Fraction(pit + 1, pits + 1)]))

    def test_weaker_counts_like_stronger(self):
        beginning = [create(2, 1, 1), set_strength(0, 1, 3), set_strength(1, 2, 3)]
        self.assertEqual(last(*beginning, set_strength(0, 1, 4), deviation()), [0, 1, 12])
        self.assertEqual(last(*beginning, set_strength(0, 5, 12), deviation()), [0, 1, 12])
        self.assertEqual(last(*beginning, set_strength(0, 1, 12), set_strength(1, 5, 6), deviation()), [0, 1, 4])
        self.assertEqual(last(*beginning, set_strength(0, 1, 2), set_strength(1, 1, 12), deviation()), [0, 7, 12])

    def test_follows_fresh_and_raw(self):
        self.assertEqual(last(create(2, 1, 1), set_fresh(3, 1), deviation()), [0, 2, 1])
        self.assertEqual(last(create(2, 1, 1), set_fresh(0, 1), set_raw(3, 1), deviation()), [0, 2, 1])

    def test_follows_the_current_number_of_pits(self):
        self.assertEqual(ask(create(1, 1, 1), add_pit(), deviation(), add_pit(), deviation())[2::2],
                         [[0, 2, 3], [0, 3, 4]])
        self.assertEqual(last(create(3, 1, 1), remove_pit(1), remove_pit(0), deviation()), [0, 1, 2])

    def test_between_strengths_and_steady_state(self):
        for fresh, raw in (((1, 1), (0, 1)), ((1, 100), (97, 3)), ((4, 9), (4, 9))):
            calls = [create(4, 37, 12), set_fresh(*fresh), set_raw(*raw), set_strength(2, 3, 5), run_days(5),
                     get_strengths(), steady_state(), deviation()]
            found = ask(*calls)
            strengths, steady = fractions_in(found[-3]), fractions_in(found[-2])
            self.assertEqual(fractions_in(found[-1]), [max(abs(a - b) for a, b in zip(strengths, steady))])
            self.assertEqual(found, modelled(*calls))

    def test_numbers_beyond_64_bits(self):
        calls = [create(6, 49, 50), set_fresh(97, 89), set_raw(1, 83), set_strength(3, 79, 73), run_days(24),
                 deviation()]
        self.assertGreater(min(last(*calls)[1:]), 2 ** 64)
        self.assertEqual(ask(*calls), modelled(*calls))

    def test_asking_changes_nothing(self):
        found = ask(create(2, 1, 1), run_day(), deviation(), deviation(), get_strengths(), run_days(23))
        self.assertEqual(found[3:], [found[2], [2, 0, 1, 1, 2], last(create(2, 1, 1), run_days(24))])


if __name__ == "__main__":
    unittest.main()
