"""status."""

import unittest

from support import (LARGEST, add_pit, ask, create, last, remove_pit, run_days, set_fresh, set_raw, set_strength,
                     status)


class Status(unittest.TestCase):
    def test_new_line(self):
        for pits in range(1, 7):
            self.assertEqual(last(create(pits, 50, 1), status()), [pits, 50, 1, 1, 1, 0, 1])
        self.assertEqual(last(create(1, 1, 50), status()), [1, 1, 50, 1, 1, 0, 1])

    def test_fresh_ahead_of_raw_in_lowest_terms(self):
        self.assertEqual(ask(create(2, 3, 4), set_fresh(6, 4), set_raw(50, 75), status(), set_fresh(0, 100),
                             set_raw(100, 1), status())[3::3], [[2, 3, 4, 3, 2, 2, 3], [2, 3, 4, 0, 1, 100, 1]])

    def test_number_of_pits_now(self):
        self.assertEqual(ask(create(2, 3, 4), add_pit(), status(), remove_pit(0), remove_pit(0), status())[2::3],
                         [[3, 3, 4, 1, 1, 0, 1], [1, 3, 4, 1, 1, 0, 1]])

    def test_days_and_strengths_do_not_show(self):
        self.assertEqual(last(create(2, 3, 4), set_strength(0, 9, 7), run_days(24), status()), [2, 3, 4, 1, 1, 0, 1])

    def test_create_begins_anew(self):
        self.assertEqual(last(create(2, 3, 4), set_fresh(1, 2), set_raw(1, 3), create(5, 6, 7), status()),
                         [5, 6, 7, 1, 1, 0, 1])

    def test_refused_calls_do_not_show(self):
        for call in (create(7, 1, 1), create(1, 51, 1), create(1, 1, 0), set_fresh(101, 1), set_fresh(1, 0),
                     set_raw(1, 101), set_raw(LARGEST, LARGEST), remove_pit(2)):
            self.assertEqual(last(create(2, 3, 4), set_fresh(1, 2), set_raw(1, 3), call, status()),
                             [2, 3, 4, 1, 2, 1, 3])


if __name__ == "__main__":
    unittest.main()
