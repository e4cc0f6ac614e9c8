"""portions_lot and countercurrent_gain."""

import unittest
from math import gcd

from support import (LARGEST, ask, countercurrent_gain, create, fractions_in, last, modelled, portions_lot, run_days,
                     set_fresh, set_raw, set_strength, status, steady_lot)

ALL_PITS = range(1, 7)
AMOUNTS = [(1, 1), (1, 50), (50, 1), (50, 50), (37, 41), (6, 4)]
SETTINGS = [((1, 1), (0, 1)), ((97, 3), (2, 7)), ((1, 100), (100, 1)), ((0, 9), (3, 4)), ((5, 6), (5, 6)),
            ((0, 1), (0, 1))]


class PortionsLot(unittest.TestCase):
    def test_known_values(self):
        self.assertEqual(ask(create(1, 1, 1), *[portions_lot(count) for count in ALL_PITS])[1:],
                         [[0, 1, 2], [0, 5, 9], [0, 37, 64], [0, 369, 625], [0, 4651, 7776], [0, 70993, 117649]])

    def test_unequal_amounts(self):
        self.assertEqual(last(create(1, 4, 1), portions_lot(2)), [0, 8, 9])
        self.assertEqual(last(create(1, 1, 4), portions_lot(2)), [0, 17, 81])

    def test_one_portion_is_one_mixing(self):
        self.assertEqual(last(create(4, 3, 2), set_fresh(4, 5), set_raw(1, 5), portions_lot(1)), [0, 14, 25])

    def test_begins_with_raw_and_goes_towards_fresh(self):
        self.assertEqual(last(create(1, 2, 1), set_fresh(0, 1), set_raw(4, 1), portions_lot(2)), [0, 1, 1])
        self.assertEqual(last(create(1, 2, 1), set_fresh(8, 1), set_raw(4, 1), portions_lot(2)), [0, 7, 1])

    def test_zero_is_0_1(self):
        self.assertEqual(last(create(1, 3, 4), set_fresh(0, 100), portions_lot(6)), [0, 0, 1])

    def test_every_number_of_portions(self):
        for liquor, lot in AMOUNTS:
            for fresh, raw in SETTINGS:
                calls = [create(2, liquor, lot), set_fresh(*fresh), set_raw(*raw)]
                calls += [portions_lot(count) for count in ALL_PITS]
                self.assertEqual(ask(*calls), modelled(*calls))

    def test_does_not_rest_on_the_pits_or_the_days(self):
        for pits in ALL_PITS:
            self.assertEqual(last(create(pits, 4, 5), set_strength(0, 9, 7), run_days(24), portions_lot(3)),
                             last(create(1, 4, 5), portions_lot(3)))

    def test_outside_the_limits(self):
        for portions in (0, 7, LARGEST):
            self.assertEqual(last(create(6, 1, 1), portions_lot(portions)), [-22])

    def test_large_numbers_in_lowest_terms(self):
        calls = [create(1, 49, 50), set_fresh(97, 89), set_raw(1, 83), portions_lot(6)]
        found = last(*calls)
        self.assertGreater(found[2], 2 ** 63)
        self.assertEqual(gcd(found[1], found[2]), 1)
        self.assertEqual(found, modelled(*calls)[-1])


class CountercurrentGain(unittest.TestCase):
    def test_known_values(self):
        self.assertEqual(ask(create(1, 1, 1), *[countercurrent_gain(pits) for pits in ALL_PITS[:4]])[1:],
                         [[0, 0, 1], [0, 1, 9], [0, 11, 64], [0, 131, 625]])

    def test_one_pit_gains_nothing(self):
        for liquor, lot in AMOUNTS:
            self.assertEqual(last(create(3, liquor, lot), set_fresh(7, 3), set_raw(1, 2), countercurrent_gain(1)),
                             [0, 0, 1])

    def test_fresh_equal_to_raw_gains_nothing(self):
        for pits in ALL_PITS:
            self.assertEqual(last(create(3, 7, 9), set_fresh(3, 7), set_raw(3, 7), countercurrent_gain(pits)),
                             [0, 0, 1])

    def test_below_0_where_fresh_is_smaller_than_raw(self):
        self.assertEqual(ask(create(1, 1, 1), set_fresh(0, 1), set_raw(1, 1), countercurrent_gain(2),
                             countercurrent_gain(3))[3:], [[0, -1, 9], [0, -11, 64]])
        for pits in ALL_PITS[1:]:
            found = last(create(2, 50, 49), set_fresh(1, 100), set_raw(100, 1), countercurrent_gain(pits))
            self.assertLess(found[1], 0)
            self.assertGreater(found[2], 0)
            self.assertEqual(gcd(found[1], found[2]), 1)

    def test_is_the_difference_of_the_two(self):
        for liquor, lot in AMOUNTS:
            for fresh, raw in SETTINGS:
                for pits in ALL_PITS:
                    calls = [create(2, liquor, lot), set_fresh(*fresh), set_raw(*raw), steady_lot(pits),
                             portions_lot(pits), countercurrent_gain(pits)]
                    found = ask(*calls)
                    steady, portions, gain = [fractions_in(answer)[0] for answer in found[3:]]
                    self.assertEqual(gain, steady - portions)
                    self.assertEqual(found, modelled(*calls))

    def test_does_not_rest_on_the_pits_or_the_days(self):
        for pits in ALL_PITS:
            self.assertEqual(last(create(pits, 1, 1), set_strength(0, 9, 7), run_days(24), countercurrent_gain(3)),
                             [0, 11, 64])

    def test_outside_the_limits(self):
        for pits in (0, 7, LARGEST):
            self.assertEqual(ask(create(6, 3, 2), countercurrent_gain(pits), status())[1:],
                             [[-22], [6, 3, 2, 1, 1, 0, 1]])

    def test_numbers_beyond_64_bits(self):
        calls = [create(1, 49, 50), set_fresh(1, 83), set_raw(97, 89), countercurrent_gain(6)]
        found = last(*calls)
        self.assertLess(found[1], -2 ** 64)
        self.assertGreater(found[2], 2 ** 64)
        self.assertEqual(found, modelled(*calls)[-1])


if __name__ == "__main__":
    unittest.main()
