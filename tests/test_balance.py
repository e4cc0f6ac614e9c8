"""balance: the days, the totals and the content."""

import unittest
from fractions import Fraction
from math import gcd

from support import (LARGEST, add_pit, ask, balance, countercurrent_gain, create, days_needed, deviation, fractions_in,
                     get_strengths, last, modelled, pits_needed, portions_lot, preview_days, remove_pit, run_day,
                     run_days, set_fresh, set_raw, set_strength, status, steady_discharge, steady_lot, steady_state)


def totals(answer):
    return fractions_in(answer)[:3]


def content(answer):
    return fractions_in(answer)[3]


class Balance(unittest.TestCase):
    def test_zero_at_first(self):
        for pits in range(1, 7):
            self.assertEqual(last(create(pits, 4, 5), balance()), [0, 0, 1, 0, 1, 0, 1, 0, 1])

    def test_days_first_then_totals_then_content(self):
        self.assertEqual(last(create(2, 1, 1), run_day(), run_days(2), balance()), [3, 3, 1, 1, 1, 1, 4, 7, 4])

    def test_days_are_counted(self):
        found = ask(create(2, 3, 5), *[balance(), run_day()] * 24, balance(), run_day(), balance())
        self.assertEqual([answer[0] for answer in found[1::2]], list(range(25)) + [24])
        self.assertEqual(last(create(2, 3, 5), run_days(7), run_days(6), balance())[0], 13)

    def test_a_day(self):
        before, after = ask(create(2, 3, 5), set_fresh(1, 2), set_raw(1, 7), set_strength(0, 1, 3),
                            set_strength(1, 1, 4), balance(), run_day(), balance())[5::2]
        self.assertEqual([new - old for new, old in zip(totals(after), totals(before))],
                         [Fraction(3, 2) + Fraction(5, 7), Fraction(5, 4), Fraction(1)])

    def test_a_day_of_a_single_pit(self):
        found = last(create(1, 2, 3), set_strength(0, 1, 2), set_raw(1, 3), run_day(), balance())
        self.assertEqual(found, [1, 11, 2, 3, 2, 1, 1, 3, 1])

    def test_content_of_all_pits(self):
        found = last(create(3, 2, 5), set_strength(0, 1, 2), set_strength(1, 1, 3), set_strength(2, 1, 7), balance())
        self.assertEqual(content(found), 7 * (Fraction(1, 2) + Fraction(1, 3) + Fraction(1, 7)))

    def test_strength_set_by_hand_is_supplied(self):
        found = ask(create(2, 3, 5), set_strength(1, 3, 4), balance(), set_strength(1, 1, 4), balance(),
                    set_strength(1, 0, 9), balance())
        self.assertEqual(found[2::2], [[0, 6, 1, 0, 1, 0, 1, 6, 1], [0, 2, 1, 0, 1, 0, 1, 2, 1],
                                       [0, 0, 1, 0, 1, 0, 1, 0, 1]])

    def test_settings_and_questions_change_none(self):
        beginning = [create(2, 3, 5), set_strength(1, 3, 4), run_days(3)]
        expected = last(*beginning, balance())
        for call in (set_fresh(1, 2), set_raw(1, 7), get_strengths(), steady_state(), steady_lot(2),
                     steady_discharge(2), portions_lot(3), deviation(), balance(), pits_needed(1, 2),
                     days_needed(1, 2), days_needed(100, 1), preview_days(24), add_pit(), countercurrent_gain(4),
                     status()):
            self.assertEqual(last(*beginning, call, balance()), expected, call)

    def test_create_begins_anew(self):
        found = last(create(2, 3, 5), set_strength(1, 3, 4), run_days(3), create(2, 3, 5), balance())
        self.assertEqual(found, [0, 0, 1, 0, 1, 0, 1, 0, 1])

    def test_failed_calls_change_none(self):
        for call in (create(7, 1, 1), set_strength(2, 1, 1), set_strength(1, 1, 0), run_days(0), run_days(5),
                     remove_pit(2), remove_pit(LARGEST)):
            found = ask(create(2, 3, 5), set_strength(1, 3, 4), run_days(20), balance(), call, balance())
            self.assertEqual(len(found[4]), 1)
            self.assertEqual(found[5], found[3])

    def test_numbers_beyond_64_bits_in_lowest_terms(self):
        calls = [create(6, 49, 50), set_fresh(97, 89), set_raw(1, 83), set_strength(3, 79, 73), run_days(24),
                 balance()]
        found = last(*calls)
        self.assertGreater(min(found[3:]), 2 ** 64)
        for k in range(1, 9, 2):
            self.assertEqual(gcd(found[k], found[k + 1]), 1)
        self.assertEqual(found, modelled(*calls)[-1])


if __name__ == "__main__":
    unittest.main()
