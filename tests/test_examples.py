"""The document's "Examples": all rows as one request."""

import unittest

from support import (ask, balance, create, deviation, get_strengths, pits_needed, portions_lot, remove_pit, run_day,
                     run_days, set_raw, steady_lot, steady_state)
from tanyard.pitline import answers

ROWS = [
    (create(2, 1, 1), [0]),
    (run_day(), [0, 0, 1, 0, 1]),
    (get_strengths(), [2, 0, 1, 1, 2]),
    (run_days(2), [2, 1, 4, 5, 8]),
    (steady_state(), [2, 1, 3, 2, 3]),
    (deviation(), [0, 1, 12]),
    (steady_lot(3), [0, 3, 4]),
    (portions_lot(3), [0, 37, 64]),
    (balance(), [3, 3, 1, 1, 1, 1, 4, 7, 4]),
    (pits_needed(7, 10), [3]),
    (set_raw(1, 2), [0, 0, 1]),
    (remove_pit(2), [-2]),
    (run_days(22), [-28]),
]


class Examples(unittest.TestCase):
    def test_rows_of_one_request(self):
        self.assertEqual(ask(*[call for call, answer in ROWS]), [answer for call, answer in ROWS])

    def test_rows_as_they_are_laid(self):
        request = [0, 2, 1, 1, 4, 6, 5, 2, 7, 11, 8, 3, 10, 3, 12, 13, 7, 10, 2, 1, 2, 17, 2, 5, 22]
        self.assertEqual(answers(request), [
            1, 0,
            5, 0, 0, 1, 0, 1,
            5, 2, 0, 1, 1, 2,
            5, 2, 1, 4, 5, 8,
            5, 2, 1, 3, 2, 3,
            3, 0, 1, 12,
            3, 0, 3, 4,
            3, 0, 37, 64,
            9, 3, 3, 1, 1, 1, 1, 4, 7, 4,
            1, 3,
            3, 0, 0, 1,
            1, -2,
            1, -28,
        ])


if __name__ == "__main__":
    unittest.main()
