"""create: its limits, what a new line holds, and that it may be called again."""

import unittest

from support import (LARGEST, ask, create, get_strengths, last, run_day, run_days, set_fresh, set_raw, set_strength,
                     steady_state)


class Limits(unittest.TestCase):
    def test_every_number_of_pits(self):
        for pits in range(1, 7):
            self.assertEqual(ask(create(pits, 1, 1), get_strengths()), [[0], [pits] + [0, 1] * pits])

    def test_least_and_greatest_amounts(self):
        for liquor in (1, 2, 49, 50):
            for lot in (1, 2, 49, 50):
                self.assertEqual(ask(create(1, liquor, lot), get_strengths()), [[0], [1, 0, 1]])

    def test_outside_the_limits(self):
        for value in (0, 7, 50, LARGEST):
            self.assertEqual(ask(create(value, 1, 1), get_strengths()), [[-22], [-11]])
        for value in (0, 51, LARGEST):
            self.assertEqual(ask(create(1, value, 1), get_strengths()), [[-22], [-11]])
            self.assertEqual(ask(create(6, 50, value), get_strengths()), [[-22], [-11]])

    def test_all_outside_at_once(self):
        self.assertEqual(ask(create(0, 0, 0), create(LARGEST, LARGEST, LARGEST)), [[-22], [-22]])

    def test_amounts_are_not_confused(self):
        self.assertEqual(ask(create(1, 2, 1), run_days(1))[-1], [1, 2, 3])
        self.assertEqual(ask(create(1, 1, 2), run_days(1))[-1], [1, 1, 3])


class NewLine(unittest.TestCase):
    def test_fresh_is_one_and_raw_is_zero(self):
        self.assertEqual(ask(create(1, 1, 1), set_fresh(1, 2), set_raw(1, 2)), [[0], [0, 1, 1], [0, 0, 1]])

    def test_no_days_are_run(self):
        self.assertEqual(len(last(create(6, 1, 1), run_days(24))), 13)


class Again(unittest.TestCase):
    def setUp(self):
        self.used = [create(3, 2, 5), set_fresh(1, 3), set_raw(1, 4), set_strength(1, 7, 9), run_days(24)]

    def test_replaces_the_line(self):
        found = ask(*self.used, create(2, 1, 1), get_strengths(), set_fresh(1, 1), set_raw(0, 1), run_days(24))
        self.assertEqual(found[5:], ask(create(2, 1, 1), get_strengths(), set_fresh(1, 1), set_raw(0, 1), run_days(24)))
        self.assertEqual(found[6], [2, 0, 1, 0, 1])

    def test_replaces_the_amounts(self):
        found = ask(*self.used, create(2, 7, 3), steady_state(), run_day())
        self.assertEqual(found[5:], ask(create(2, 7, 3), steady_state(), run_day()))

    def test_keeps_the_line_where_refused(self):
        after = [get_strengths(), steady_state(), set_fresh(1, 1), set_raw(0, 1), run_day()]
        kept = ask(*self.used, *after)[5:]
        for refused in (create(0, 1, 1), create(7, 1, 1), create(2, 0, 1), create(2, 51, 1), create(2, 1, 0),
                        create(2, 1, 51), create(LARGEST, 1, 1), create(2, LARGEST, 1), create(2, 1, LARGEST)):
            self.assertEqual(ask(*self.used, refused, *after)[5:], [[-22]] + kept)


if __name__ == "__main__":
    unittest.main()
