"""pits_needed and days_needed."""

import unittest
from fractions import Fraction

from support import (LARGEST, add_pit, ask, balance, create, days_needed, fractions_in, get_strengths, last, modelled,
                     pits_needed, preview_days, remove_pit, run_day, run_days, set_fresh, set_raw, set_strength,
                     status, steady_lot)

WRONG = [(101, 1), (LARGEST, 1), (1, 0), (1, 101), (1, LARGEST), (0, 0), (101, 0), (100, 101), (LARGEST, LARGEST)]
REQUIRED = [(0, 1), (0, 100), (1, 100), (1, 3), (1, 2), (51, 100), (2, 3), (67, 100), (9, 10), (99, 100), (1, 1),
            (100, 99), (7, 2), (100, 1)]


class PitsNeeded(unittest.TestCase):
    def test_reached_exactly(self):
        # With equal amounts lots leave with pits / (pits + 1).
        for pits in range(1, 7):
            self.assertEqual(last(create(1, 4, 4), pits_needed(pits, pits + 1)), [pits])

    def test_a_little_more_is_not_reached(self):
        self.assertEqual(ask(create(6, 1, 1), pits_needed(51, 100), pits_needed(67, 100), pits_needed(76, 100),
                             pits_needed(81, 100), pits_needed(84, 100), pits_needed(86, 100))[1:],
                         [[2], [3], [4], [5], [6], [-33]])

    def test_whatever_number_the_line_has(self):
        for own in range(1, 7):
            self.assertEqual(ask(create(own, 1, 1), pits_needed(1, 4), pits_needed(7, 10), pits_needed(6, 7),
                                 pits_needed(7, 8))[1:], [[1], [3], [6], [-33]])
        self.assertEqual(ask(create(1, 1, 1), add_pit(), pits_needed(7, 10), remove_pit(0), pits_needed(7, 10))[2::2],
                         [[3], [3]])

    def test_zero_needs_one_pit(self):
        self.assertEqual(last(create(3, 1, 50), pits_needed(0, 1)), [1])
        self.assertEqual(last(create(3, 1, 50), set_fresh(0, 1), pits_needed(0, 100)), [1])

    def test_no_such_number(self):
        self.assertEqual(last(create(6, 50, 1), pits_needed(1, 1)), [-33])
        self.assertEqual(last(create(6, 1, 1), pits_needed(100, 1)), [-33])
        self.assertEqual(last(create(6, 1, 1), set_fresh(0, 1), pits_needed(1, 100)), [-33])

    def test_where_fresh_equals_raw(self):
        self.assertEqual(ask(create(2, 3, 1), set_fresh(3, 7), set_raw(3, 7), pits_needed(3, 7), pits_needed(43, 100)
                             )[3:], [[1], [-33]])

    def test_where_fresh_is_smaller_than_raw(self):
        # More pits make the lots weaker here, so it is one pit or none.
        self.assertEqual(ask(create(4, 1, 1), set_fresh(0, 1), set_raw(1, 1), pits_needed(1, 2), pits_needed(51, 100)
                             )[3:], [[1], [-33]])

    def test_smallest_of_the_steady_lots(self):
        for liquor, lot in ((1, 1), (50, 1), (1, 50), (50, 50), (49, 50), (6, 5)):
            for fresh, raw in (((1, 1), (0, 1)), ((100, 1), (1, 2)), ((1, 2), (100, 99))):
                beginning = [create(2, liquor, lot), set_fresh(*fresh), set_raw(*raw)]
                lots = [fractions_in(answer)[0]
                        for answer in ask(*beginning, *[steady_lot(pits) for pits in range(1, 7)])[3:]]
                for num, den in REQUIRED:
                    enough = [k + 1 for k in range(6) if lots[k] >= Fraction(num, den)]
                    self.assertEqual(last(*beginning, pits_needed(num, den)), enough[:1] or [-33])

    def test_does_not_rest_on_the_strengths_or_the_days(self):
        self.assertEqual(last(create(2, 1, 1), set_strength(1, 100, 1), run_days(24), pits_needed(3, 4)), [3])

    def test_limits_come_ahead_of_what_is_not_reached(self):
        for given in WRONG:
            self.assertEqual(last(create(2, 1, 1), set_fresh(0, 1), pits_needed(*given)), [-22])

    def test_asking_changes_nothing(self):
        for given in REQUIRED + WRONG:
            found = ask(create(2, 1, 1), run_day(), get_strengths(), balance(), status(), pits_needed(*given),
                        get_strengths(), balance(), status())
            self.assertEqual(found[6:], found[2:5])


class DaysNeeded(unittest.TestCase):
    def test_each_day(self):
        # The last of two pits of equal amounts: 0, 1/2, 1/2, 5/8, 5/8, 21/32 ..
        self.assertEqual(ask(create(2, 1, 1), days_needed(0, 1), days_needed(1, 100), days_needed(1, 2),
                             days_needed(51, 100), days_needed(5, 8), days_needed(63, 100), days_needed(21, 32))[1:],
                         [[0], [1], [1], [3], [3], [5], [5]])

    def test_the_strength_of_the_last_pit_tells(self):
        self.assertEqual(last(create(3, 1, 1), set_strength(0, 1, 1), set_strength(1, 1, 1), days_needed(1, 1)), [1])
        self.assertEqual(last(create(3, 1, 1), set_strength(2, 1, 1), days_needed(1, 1)), [0])

    def test_none_where_it_is_reached_already(self):
        self.assertEqual(ask(create(2, 1, 1), set_strength(1, 2, 3), days_needed(2, 3), days_needed(1, 3),
                             days_needed(67, 100))[2:], [[0], [0], [-33]])

    def test_zero_needs_no_day(self):
        self.assertEqual(ask(create(1, 1, 1), set_fresh(0, 1), days_needed(0, 1), days_needed(0, 100))[2:], [[0], [0]])

    def test_reached_for_a_while_only(self):
        # A strong pit 0 makes the last pit strong, before it falls to the steady state.
        calls = [create(3, 1, 1), set_strength(0, 100, 1), days_needed(20, 1), days_needed(25, 1), days_needed(26, 1)]
        self.assertEqual(ask(*calls)[2:], [[2], [2], [-33]])

    def test_the_24th_day_and_not_the_25th(self):
        # The last of five pits of equal amounts reaches 14/17 on its 25th day.
        self.assertEqual(last(create(5, 1, 1), days_needed(14, 17)), [-33])
        self.assertEqual(last(create(5, 1, 1), run_day(), days_needed(14, 17)), [24])
        self.assertEqual(last(create(5, 1, 1), run_days(2), days_needed(14, 17)), [23])

    def test_however_many_days_have_been_run(self):
        self.assertEqual(ask(create(5, 1, 1), run_days(24), days_needed(14, 17), days_needed(4, 5), days_needed(5, 6)
                             )[2:], [[1], [0], [-33]])
        self.assertEqual(last(create(3, 1, 1), run_days(24), set_strength(0, 100, 1), days_needed(25, 1)), [2])

    def test_follows_fresh_and_raw(self):
        self.assertEqual(last(create(1, 1, 1), set_fresh(0, 1), set_raw(4, 1), days_needed(2, 1)), [1])
        self.assertEqual(last(create(1, 1, 1), set_fresh(0, 1), set_raw(4, 1), days_needed(3, 1)), [-33])

    def test_follows_the_current_last_pit(self):
        self.assertEqual(ask(create(1, 1, 1), set_strength(0, 1, 1), add_pit(), days_needed(1, 1), remove_pit(1),
                             days_needed(1, 1))[3::2], [[1], [0]])

    def test_smallest_of_the_days_ahead(self):
        for liquor, lot in ((1, 1), (50, 1), (1, 50), (49, 50)):
            for fresh, raw in (((1, 1), (0, 1)), ((100, 1), (1, 2)), ((1, 2), (100, 99))):
                beginning = [create(4, liquor, lot), set_fresh(*fresh), set_raw(*raw), set_strength(1, 5, 4)]
                found = ask(*beginning, get_strengths(), *[preview_days(count) for count in range(1, 25)])[4:]
                lasts = [fractions_in(answer)[-1] for answer in found]
                for num, den in REQUIRED:
                    enough = [count for count in range(25) if lasts[count] >= Fraction(num, den)]
                    self.assertEqual(last(*beginning, days_needed(num, den)), enough[:1] or [-33])

    def test_limits_come_ahead_of_what_is_not_reached(self):
        for given in WRONG:
            self.assertEqual(last(create(2, 1, 1), set_fresh(0, 1), days_needed(*given)), [-22])

    def test_asking_changes_nothing(self):
        for given in REQUIRED + WRONG:
            for days in ([], [run_day()], [run_days(24)]):
                found = ask(create(2, 1, 1), *days, get_strengths(), balance(), status(), days_needed(*given),
                            get_strengths(), balance(), status())
                self.assertEqual(found[-3:], found[-7:-4])

    def test_the_days_left_are_left(self):
        found = ask(create(5, 1, 1), run_days(20), days_needed(14, 17), run_days(4), run_day())
        self.assertEqual(found[2:], [[5], last(create(5, 1, 1), run_days(24)), [-28]])

    def test_against_the_model(self):
        calls = [create(6, 9, 10), set_fresh(97, 89), set_strength(2, 3, 1)]
        calls += [days_needed(*given) for given in REQUIRED] + [run_days(24)]
        calls += [days_needed(*given) for given in REQUIRED]
        self.assertEqual(ask(*calls), modelled(*calls))


if __name__ == "__main__":
    unittest.main()
