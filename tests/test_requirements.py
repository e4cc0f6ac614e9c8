"""The requirements 2 to 6 of the document, as far as the calls 0 to 9 reach them."""

import random
import unittest
from fractions import Fraction

from support import (ask, create, fractions_in, get_strengths, last, run_day, set_fresh, set_raw, set_strength,
                     steady_lot, steady_state)

AMOUNTS = [(1, 1), (1, 50), (50, 1), (50, 50), (7, 9), (49, 50), (12, 4)]
SETTINGS = [((1, 1), (0, 1)), ((100, 1), (1, 100)), ((3, 7), (3, 7)), ((97, 89), (13, 83))]


def portions(count, liquor, lot, fresh, raw):
    strength = raw
    portion = Fraction(liquor, count)
    for part in range(count):
        strength = (portion * fresh + lot * strength) / (portion + lot)
    return strength


class SteadyState(unittest.TestCase):
    def test_a_day_does_not_change_it(self):
        # Lines whose steady strengths lie within the limits of set_strength.
        lines = [(1, 1, 1), (2, 1, 1), (6, 1, 1), (6, 50, 50), (5, 1, 2), (5, 2, 1), (3, 3, 2), (2, 5, 3)]
        for pits, liquor, lot in lines:
            steady = last(create(pits, liquor, lot), steady_state())
            setting = [set_strength(pit, steady[1 + 2 * pit], steady[2 + 2 * pit]) for pit in range(pits)]
            found = ask(create(pits, liquor, lot), *setting, run_day(), get_strengths())
            self.assertEqual(found[-1], steady)
            lot_strength, discharge_strength = fractions_in(found[-2])
            self.assertEqual(lot * lot_strength + liquor * discharge_strength, liquor)

    def test_other_strengths_change_on_a_day(self):
        for first in range(8):
            for second in range(8):
                before = [set_strength(0, first, 7), set_strength(1, second, 7)]
                found = ask(create(2, 2, 1), *before, get_strengths(), run_day(), get_strengths())
                self.assertEqual(found[-3] == found[-1], (first, second) == (4, 6))


class Comparisons(unittest.TestCase):
    def lots(self, liquor, lot, fresh, raw):
        asked = [steady_lot(pits) for pits in range(1, 7)]
        found = ask(create(1, liquor, lot), set_fresh(*fresh), set_raw(*raw), *asked)
        return [fractions_in(answer)[0] for answer in found[3:]]

    def test_at_least_as_good_as_portions(self):
        for liquor, lot in AMOUNTS:
            for fresh, raw in SETTINGS:
                for k, strength in enumerate(self.lots(liquor, lot, fresh, raw)):
                    self.assertGreaterEqual(strength, portions(k + 1, liquor, lot, Fraction(*fresh), Fraction(*raw)))

    def test_more_pits_are_never_weaker_and_never_above_fresh(self):
        for liquor, lot in AMOUNTS:
            for fresh, raw in SETTINGS:
                found = self.lots(liquor, lot, fresh, raw)
                self.assertEqual(found, sorted(found))
                self.assertLessEqual(found[-1], Fraction(*fresh))


def chosen_strengths(chance, pits):
    return [(chance.randint(0, 100), chance.randint(1, 100)) for pit in range(pits)]


class Days(unittest.TestCase):
    def test_deviation_never_increases(self):
        chance = random.Random(5)
        for trial in range(30):
            pits = chance.randint(1, 6)
            setting = [set_strength(pit, *strength) for pit, strength in enumerate(chosen_strengths(chance, pits))]
            found = ask(create(pits, *chance.choice(AMOUNTS)), *setting, steady_state(),
                        *[get_strengths(), run_day()] * 24, get_strengths())
            steady = fractions_in(found[pits + 1])
            deviations = [max(abs(a - b) for a, b in zip(fractions_in(strengths), steady))
                          for strengths in found[pits + 2::2]]
            self.assertEqual(len(deviations), 25)
            self.assertEqual(deviations, sorted(deviations, reverse=True))

    def test_stronger_stays_stronger(self):
        chance = random.Random(6)
        for trial in range(30):
            pits = chance.randint(1, 6)
            beginning = [create(pits, *chance.choice(AMOUNTS)), set_fresh(3, 4), set_raw(1, 5)]
            weak = chosen_strengths(chance, pits)
            strong = [(min(100, num + chance.randint(0, 2)), den) for num, den in weak]
            found = []
            for strengths in (weak, strong):
                setting = [set_strength(pit, *strength) for pit, strength in enumerate(strengths)]
                found.append(ask(*beginning, *setting, *[run_day(), get_strengths()] * 20)[pits + 4::2])
            for weaker, stronger in zip(*found):
                for a, b in zip(fractions_in(weaker), fractions_in(stronger)):
                    self.assertLessEqual(a, b)


if __name__ == "__main__":
    unittest.main()
