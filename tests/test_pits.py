"""add_pit and remove_pit."""

import unittest
from fractions import Fraction

from support import (LARGEST, add_pit, ask, balance, create, fractions_in, get_strengths, last, modelled, remove_pit,
                     run_day, run_days, set_fresh, set_raw, set_strength, status, steady_state)


def strengths_set(pits):
    """Strengths that tell the pits apart: 1/2, 1/3, 1/4 .."""
    return [set_strength(pit, 1, pit + 2) for pit in range(pits)]


class AddPit(unittest.TestCase):
    def test_up_to_6(self):
        self.assertEqual(ask(create(1, 1, 1), *[add_pit()] * 7),
                         [[0], [2], [3], [4], [5], [6], [-28], [-28]])

    def test_a_line_of_6(self):
        found = ask(create(6, 1, 1), run_day(), get_strengths(), balance(), status(), add_pit(), get_strengths(),
                    balance(), status())
        self.assertEqual(found[5], [-28])
        self.assertEqual(found[6:], found[2:5])

    def test_appended_as_the_last_with_strength_0(self):
        for pits in range(1, 6):
            strengths = [number for pit in range(pits) for number in (1, pit + 2)]
            self.assertEqual(ask(create(pits, 1, 1), *strengths_set(pits), add_pit(), get_strengths())[-2:],
                             [[pits + 1], [pits + 1] + strengths + [0, 1]])

    def test_no_total_changes(self):
        for settings in ([], [set_fresh(3, 2), set_raw(1, 7)]):
            found = ask(create(3, 4, 7), *settings, run_days(5), balance(), add_pit(), balance())
            self.assertEqual(found[-1], found[-3])

    def test_fresh_raw_and_amounts_stay(self):
        self.assertEqual(last(create(3, 4, 7), set_fresh(3, 2), set_raw(1, 7), add_pit(), status()),
                         [4, 4, 7, 3, 2, 1, 7])

    def test_days_go_on_with_it(self):
        calls = [create(2, 3, 2), run_days(2), add_pit(), run_day(), get_strengths(), set_strength(2, 4, 3),
                 run_days(21), balance(), run_day(), steady_state()]
        self.assertEqual(ask(*calls), modelled(*calls))
        self.assertEqual(ask(*calls)[-2], [-28])

    def test_after_24_days(self):
        self.assertEqual(ask(create(2, 1, 1), run_days(24), add_pit(), run_day())[2:], [[3], [-28]])


class RemovePit(unittest.TestCase):
    def test_down_to_one(self):
        self.assertEqual(ask(create(6, 1, 1), *[remove_pit(0)] * 7),
                         [[0], [5], [4], [3], [2], [1], [-33], [-33]])

    def test_every_pit(self):
        for pits in range(2, 7):
            for pit in range(pits):
                strengths = [number for k in range(pits) if k != pit for number in (1, k + 2)]
                self.assertEqual(ask(create(pits, 1, 1), *strengths_set(pits), remove_pit(pit), get_strengths())[-2:],
                                 [[pits - 1], [pits - 1] + strengths])

    def test_first_middle_and_last(self):
        beginning = [create(3, 1, 1), *strengths_set(3)]
        self.assertEqual(last(*beginning, remove_pit(0), get_strengths()), [2, 1, 3, 1, 4])
        self.assertEqual(last(*beginning, remove_pit(1), get_strengths()), [2, 1, 2, 1, 4])
        self.assertEqual(last(*beginning, remove_pit(2), get_strengths()), [2, 1, 2, 1, 3])

    def test_later_pits_have_lower_numbers(self):
        self.assertEqual(ask(create(3, 1, 1), *strengths_set(3), remove_pit(1), set_strength(1, 1, 1),
                             set_strength(2, 1, 1))[-2:], [[0, 1, 4], [-2]])

    def test_its_strength_is_tanned_and_discharged(self):
        for pit in range(3):
            before, removed, after = ask(create(3, 2, 5), *strengths_set(3), run_day(), set_strength(pit, 3, 7),
                                         balance(), remove_pit(pit), balance())[-3:]
            self.assertEqual(after[0], before[0])
            self.assertEqual([new - old for new, old in zip(fractions_in(after), fractions_in(before))],
                             [0, 5 * Fraction(3, 7), 2 * Fraction(3, 7), -7 * Fraction(3, 7)])

    def test_known_totals(self):
        self.assertEqual(last(create(2, 2, 5), set_strength(1, 1, 3), remove_pit(1), balance()),
                         [0, 7, 3, 5, 3, 2, 3, 0, 1])

    def test_a_pit_of_strength_0_changes_no_total(self):
        found = ask(create(3, 2, 5), run_day(), balance(), remove_pit(0), balance())
        self.assertEqual(found[4], found[2])

    def test_fresh_raw_and_amounts_stay(self):
        self.assertEqual(last(create(3, 4, 7), set_fresh(3, 2), set_raw(1, 7), remove_pit(1), status()),
                         [2, 4, 7, 3, 2, 1, 7])

    def test_pit_that_does_not_exist(self):
        for pits in range(2, 7):
            for pit in (pits, pits + 1, 7, LARGEST):
                found = ask(create(pits, 3, 2), run_days(3), get_strengths(), balance(), status(), remove_pit(pit),
                            get_strengths(), balance(), status())
                self.assertEqual(found[5], [-2])
                self.assertEqual(found[6:], found[2:5])

    def test_the_only_pit(self):
        found = ask(create(1, 3, 2), run_days(3), get_strengths(), balance(), status(), remove_pit(0),
                    get_strengths(), balance(), status())
        self.assertEqual(found[5], [-33])
        self.assertEqual(found[6:], found[2:5])

    def test_missing_pit_comes_ahead_of_the_only_one(self):
        for pit in (1, 2, 6, LARGEST):
            self.assertEqual(last(create(1, 1, 1), remove_pit(pit)), [-2])

    def test_days_go_on_without_it(self):
        calls = [create(5, 3, 2), *strengths_set(5), run_days(2), remove_pit(0), run_day(), remove_pit(3), run_day(),
                 remove_pit(1), get_strengths(), steady_state(), run_days(20), balance(), run_day()]
        self.assertEqual(ask(*calls), modelled(*calls))
        self.assertEqual(ask(*calls)[-1], [-28])

    def test_after_24_days(self):
        self.assertEqual(ask(create(2, 1, 1), run_days(24), remove_pit(1), run_day(), run_days(1))[2:],
                         [[1], [-28], [-28]])


class Both(unittest.TestCase):
    def test_removed_and_added_again(self):
        self.assertEqual(ask(create(6, 1, 1), *strengths_set(6), remove_pit(2), add_pit(), add_pit(), get_strengths()
                             )[-4:], [[5], [6], [-28], [6, 1, 2, 1, 3, 1, 5, 1, 6, 1, 7, 0, 1]])

    def test_added_and_removed_again(self):
        found = ask(create(2, 3, 4), run_days(3), get_strengths(), balance(), status(), add_pit(), remove_pit(2),
                    get_strengths(), balance(), status())
        self.assertEqual(found[7:], found[2:5])

    def test_create_begins_anew(self):
        found = ask(create(2, 3, 4), add_pit(), run_days(3), remove_pit(0), create(2, 3, 4), get_strengths(),
                    balance(), status())
        self.assertEqual(found[5:], ask(create(2, 3, 4), get_strengths(), balance(), status())[1:])


if __name__ == "__main__":
    unittest.main()
