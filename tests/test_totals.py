"""The totals of a line, and that the balance is exact (requirement 1)."""

import random
import unittest
from fractions import Fraction

from support import create, get_strengths, run_day, run_days, set_fresh, set_raw, set_strength
from tanyard.line import Yard
from tanyard.operations import perform
from tanyard.refusals import Refusal


def totals(yard):
    line = yard.line
    return [Fraction(*line.supplied), Fraction(*line.tanned), Fraction(*line.discharged)]


def content(yard):
    line = yard.line
    return (line.liquor + line.lot) * sum(Fraction(*strength) for strength in line.strengths)


def yard_after(*calls):
    yard = Yard()
    for call in calls:
        perform(yard, call[0], call[1:])
    return yard


class Totals(unittest.TestCase):
    def test_zero_at_first(self):
        yard = yard_after(create(3, 4, 5))
        self.assertEqual(totals(yard), [0, 0, 0])
        self.assertEqual(yard.line.days, 0)

    def test_as_in_the_examples_of_the_document(self):
        yard = yard_after(create(2, 1, 1), run_day(), run_days(2))
        self.assertEqual(totals(yard), [3, 1, Fraction(1, 4)])
        self.assertEqual(content(yard), Fraction(7, 4))
        self.assertEqual(yard.line.days, 3)

    def test_a_day(self):
        yard = yard_after(create(2, 3, 5), set_fresh(1, 2), set_raw(1, 7), set_strength(0, 1, 3), set_strength(1, 1, 4))
        before = totals(yard)
        perform(yard, 4, [])
        self.assertEqual([new - old for new, old in zip(totals(yard), before)],
                         [Fraction(3, 2) + Fraction(5, 7), Fraction(5, 4), Fraction(1)])

    def test_strength_set_by_hand_is_supplied(self):
        yard = yard_after(create(2, 3, 5), set_strength(1, 3, 4))
        self.assertEqual(totals(yard), [6, 0, 0])
        perform(yard, 3, [1, 1, 4])
        self.assertEqual(totals(yard), [2, 0, 0])
        perform(yard, 3, [1, 0, 9])
        self.assertEqual(totals(yard), [0, 0, 0])

    def test_settings_and_questions_supply_nothing(self):
        yard = yard_after(create(2, 3, 5), set_fresh(1, 2), set_raw(1, 7), get_strengths(), [7], [8, 2], [9, 2])
        self.assertEqual(totals(yard), [0, 0, 0])

    def test_create_begins_anew(self):
        yard = yard_after(create(2, 3, 5), set_strength(1, 3, 4), run_days(3), create(2, 3, 5))
        self.assertEqual(totals(yard), [0, 0, 0])
        self.assertEqual(yard.line.days, 0)

    def test_failed_calls_change_no_total(self):
        yard = yard_after(create(2, 3, 5), set_strength(1, 3, 4), run_days(20))
        before = totals(yard)
        for call in (create(7, 1, 1), set_strength(2, 1, 1), set_strength(1, 1, 0), run_days(0), run_days(5)):
            with self.assertRaises(Refusal):
                perform(yard, call[0], call[1:])
            self.assertEqual(totals(yard), before)
            self.assertEqual(yard.line.days, 20)

    def test_balance_is_exact(self):
        chance = random.Random(1)
        for trial in range(60):
            pits = chance.randint(1, 6)
            yard = yard_after(create(pits, chance.randint(1, 50), chance.randint(1, 50)))
            while yard.line.days < 24:
                strength = [chance.randint(0, 100), chance.randint(1, 100)]
                call = chance.choice([set_fresh(*strength), set_raw(*strength), run_day(), run_day(),
                                      set_strength(chance.randrange(pits), *strength)])
                perform(yard, call[0], call[1:])
                supplied, tanned, discharged = totals(yard)
                self.assertEqual(supplied, tanned + discharged + content(yard))


if __name__ == "__main__":
    unittest.main()
