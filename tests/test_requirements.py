"""The requirements 1 to 6 of the document, over all the calls."""

import random
import unittest
from fractions import Fraction

from support import (LARGEST, add_pit, ask, balance, countercurrent_gain, create, deviation, fractions_in,
                     get_strengths, last, portions_lot, preview_days, remove_pit, run_day, run_days, set_fresh,
                     set_raw, set_strength, steady_lot, steady_state)

ALL_PITS = range(1, 7)
AMOUNTS = [(1, 1), (1, 50), (50, 1), (50, 50), (7, 9), (49, 50), (12, 4)]
# Fresh and raw, with fresh at least raw.
SETTINGS = [((1, 1), (0, 1)), ((100, 1), (1, 100)), ((3, 7), (3, 7)), ((97, 89), (13, 83)), ((0, 1), (0, 1))]


def chosen_strength(chance):
    return (chance.randint(0, 100), chance.randint(1, 100))


def setting(strengths):
    return [set_strength(pit, *strength) for pit, strength in enumerate(strengths)]


def single(answer):
    """The only fraction of an answer."""
    return Fraction(*answer[1:])


class BalanceIsExact(unittest.TestCase):
    def drawn(self, chance):
        strength = chosen_strength(chance)
        return chance.choice([set_fresh(*strength), set_raw(*strength), run_day(), run_day(), run_days(3), add_pit(),
                              remove_pit(chance.randrange(6)), set_strength(chance.randrange(6), *strength),
                              preview_days(2), set_strength(0, 1, 0), run_days(LARGEST)])

    def test_supplied_is_the_sum_of_the_others(self):
        chance = random.Random(1)
        for trial in range(100):
            calls = [create(chance.randint(1, 6), chance.randint(1, 50), chance.randint(1, 50)), balance()]
            for k in range(29):
                calls += [self.drawn(chance), balance()]
            for answer in ask(*calls)[1::2]:
                supplied, tanned, discharged, content = fractions_in(answer)
                self.assertEqual(supplied, tanned + discharged + content)


class SteadyStateIsUnique(unittest.TestCase):
    def test_a_day_does_not_change_it(self):
        # Lines whose steady strengths lie within the limits of set_strength.
        lines = [(1, 1, 1), (2, 1, 1), (6, 1, 1), (6, 50, 50), (5, 1, 2), (5, 2, 1), (3, 3, 2), (2, 5, 3)]
        for pits, liquor, lot in lines:
            steady = last(create(pits, liquor, lot), steady_state())
            strengths = [steady[1 + 2 * pit:3 + 2 * pit] for pit in range(pits)]
            found = ask(create(pits, liquor, lot), *setting(strengths), deviation(), balance(), run_day(),
                        get_strengths(), deviation(), balance())
            self.assertEqual(found[-3], steady)
            self.assertEqual([found[-6], found[-2]], [[0, 0, 1], [0, 0, 1]])
            before, after = fractions_in(found[-5]), fractions_in(found[-1])
            supplied, tanned, discharged, content = [new - old for new, old in zip(after, before)]
            self.assertEqual((supplied, content), (liquor, 0))
            self.assertEqual(tanned + discharged, supplied)

    def test_other_strengths_change_on_a_day(self):
        for first in range(8):
            for second in range(8):
                found = ask(create(2, 2, 1), *setting([(first, 7), (second, 7)]), get_strengths(), run_day(),
                            get_strengths())
                self.assertEqual(found[-3] == found[-1], (first, second) == (4, 6))


class ManyPits(unittest.TestCase):
    def settings(self):
        return [[create(1, liquor, lot), set_fresh(*fresh), set_raw(*raw)]
                for liquor, lot in AMOUNTS for fresh, raw in SETTINGS]

    def test_at_least_as_good_as_portions(self):
        for beginning in self.settings():
            for pits in ALL_PITS:
                lot, portions, gain = ask(*beginning, steady_lot(pits), portions_lot(pits),
                                          countercurrent_gain(pits))[3:]
                self.assertGreaterEqual(single(lot), single(portions))
                self.assertGreaterEqual(single(gain), 0)

    def test_one_more_pit_never_decreases_it_and_it_is_never_above_fresh(self):
        for beginning in self.settings():
            found = [single(answer) for answer in ask(*beginning, *[steady_lot(pits) for pits in ALL_PITS])[3:]]
            self.assertEqual(found, sorted(found))
            self.assertLessEqual(found[-1], Fraction(*beginning[1][1:]))


class Days(unittest.TestCase):
    def test_deviation_never_increases(self):
        chance = random.Random(5)
        for trial in range(60):
            pits = chance.randint(1, 6)
            found = ask(create(pits, *chance.choice(AMOUNTS)), set_fresh(*chosen_strength(chance)),
                        set_raw(*chosen_strength(chance)),
                        *setting([chosen_strength(chance) for pit in range(pits)]), deviation(),
                        *[run_day(), deviation()] * 24)
            deviations = [single(answer) for answer in found[3 + pits::2]]
            self.assertEqual(len(deviations), 25)
            self.assertEqual(deviations, sorted(deviations, reverse=True))

    def test_stronger_stays_stronger(self):
        chance = random.Random(6)
        for trial in range(30):
            pits = chance.randint(1, 6)
            beginning = [create(pits, *chance.choice(AMOUNTS)), set_fresh(3, 4), set_raw(1, 5)]
            weak = [chosen_strength(chance) for pit in range(pits)]
            strong = [(min(100, num + chance.randint(0, 2)), den) for num, den in weak]
            found = [ask(*beginning, *setting(strengths), *[run_day(), get_strengths()] * 20)[pits + 4::2]
                     for strengths in (weak, strong)]
            for weaker, stronger in zip(*found):
                for a, b in zip(fractions_in(weaker), fractions_in(stronger)):
                    self.assertLessEqual(a, b)


if __name__ == "__main__":
    unittest.main()
