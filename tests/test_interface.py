"""How calls and answers are laid, and what a request keeps to itself."""

import unittest

from support import (LARGEST, add_pit, ask, balance, countercurrent_gain, create, days_needed, deviation,
                     get_strengths, modelled, pits_needed, portions_lot, preview_days, remove_pit, run_day, run_days,
                     set_fresh, set_raw, set_strength, status, steady_discharge, steady_lot, steady_state)
from tanyard.pitline import answers

ONE_OF_EACH = [create(3, 2, 5), set_fresh(7, 8), set_raw(1, 9), set_strength(1, 3, 4), run_day(), run_days(2),
               get_strengths(), steady_state(), steady_lot(4), steady_discharge(5), portions_lot(6), deviation(),
              balance(), pits_needed(4, 5), days_needed(3, 4), preview_days(3), add_pit(), remove_pit(1),
              countercurrent_gain(2), status()]


def laid(calls):
    return [number for call in calls for number in call]


class WatchedList(list):
    """A list that can't be changed, not for a while either."""

    def refuse(self, *given, **named):
        raise AssertionError("the list handed in was changed")

    append = extend = insert = pop = remove = clear = sort = reverse = refuse
    __setitem__ = __delitem__ = __iadd__ = __imul__ = refuse


class Layout(unittest.TestCase):
    def test_each_call_has_its_length_ahead(self):
        self.assertEqual(answers(laid([create(1, 1, 1), run_day()])), [1, 0, 5, 0, 0, 1, 0, 1])

    def test_a_refusal_is_its_code_alone(self):
        self.assertEqual(answers(laid([run_day(), create(0, 1, 1)])), [1, -11, 1, -22])

    def test_strengths_have_no_count_but_the_number_of_pits(self):
        self.assertEqual(answers(laid([create(3, 1, 1), get_strengths()])), [1, 0, 7, 3, 0, 1, 0, 1, 0, 1])

    def test_refused_calls_take_all_their_arguments(self):
        calls = [set_fresh(4, 4), set_strength(4, 4, 4), run_days(4), create(9, 4, 4), create(1, 4, 4),
                 set_strength(4, 4, 4), set_raw(101, 4), run_days(25), steady_lot(7), portions_lot(7),
                 pits_needed(4, 0), days_needed(4, 0), preview_days(25), remove_pit(4), countercurrent_gain(7),
                 get_strengths()]
        self.assertEqual(ask(*calls), [[-11], [-11], [-11], [-22], [0], [-2], [-22], [-22], [-22], [-22], [-22], [-22],
                                       [-22], [-2], [-22], [1, 0, 1]])

    def test_answers_with_another_number_than_0_first(self):
        calls = [create(1, 3, 4), run_day(), balance(), pits_needed(1, 3), days_needed(1, 3), preview_days(1),
                 add_pit(), remove_pit(0), status()]
        self.assertEqual(answers(laid(calls)), [
            1, 0,
            5, 0, 0, 1, 0, 1,
            9, 1, 3, 1, 0, 1, 0, 1, 3, 1,
            1, 1,
            1, 0,
            3, 1, 3, 7,
            1, 2,
            1, 1,
            7, 1, 3, 4, 1, 1, 0, 1,
        ])

    def test_answers_are_whole_numbers_in_one_list(self):
        found = answers(laid(ONE_OF_EACH))
        self.assertIs(type(found), list)
        self.assertEqual({type(number) for number in found}, {int})

    def test_every_call_in_one_request(self):
        self.assertEqual([call[0] for call in ONE_OF_EACH], list(range(20)))
        self.assertEqual(ask(*ONE_OF_EACH), modelled(*ONE_OF_EACH))


class HandedIn(unittest.TestCase):
    def test_list_is_as_it_was(self):
        request = laid(ONE_OF_EACH)
        before = list(request)
        answers(request)
        self.assertEqual(request, before)

    def test_list_is_as_it_was_after_refusals(self):
        request = laid([run_day(), create(2, 1, 1), set_strength(2, 1, 1), run_days(25), steady_lot(LARGEST),
                        remove_pit(2), pits_needed(100, 1), days_needed(1, 0), preview_days(0)])
        before = list(request)
        answers(request)
        self.assertEqual(request, before)

    def test_list_is_not_changed_for_a_while(self):
        request = laid(ONE_OF_EACH)
        self.assertEqual(answers(WatchedList(request)), answers(request))

    def test_answer_is_a_list_of_its_own(self):
        request = laid(ONE_OF_EACH)
        first = answers(request)
        kept = list(first)
        first.clear()
        self.assertEqual(answers(request), kept)


class Requests(unittest.TestCase):
    def test_each_begins_without_a_line(self):
        ask(create(2, 1, 1), run_day())
        self.assertEqual(ask(get_strengths()), [[-11]])

    def test_same_list_has_the_same_answers(self):
        request = laid(ONE_OF_EACH)
        self.assertEqual(answers(request), answers(request))

    def test_a_single_call(self):
        self.assertEqual(answers(create(1, 1, 1)), [1, 0])

    def test_sixty_calls_of_240_numbers(self):
        calls = [create(6, 50, 49)] + [set_strength(k % 6, 100 - k, 41 + k) for k in range(59)]
        self.assertEqual(len(laid(calls)), 240)
        self.assertEqual(ask(*calls), modelled(*calls))

    def test_sixty_calls_with_many_days(self):
        calls = []
        for k in range(20):
            calls += [create(6, 50 - k, 31 + k % 19), set_fresh(100 - k, 97), run_days(24)]
        self.assertEqual(ask(*calls), modelled(*calls))

    def test_sixty_calls_with_questions_on_large_numbers(self):
        calls = [create(6, 49, 50), set_raw(1, 89), set_fresh(97, 83)]
        calls += [set_strength(pit, 1, 79 - pit) for pit in range(6)]
        calls += [run_days(24)] + [preview_days(24), days_needed(100, 1), balance(), deviation()] * 12
        self.assertEqual(ask(*calls), modelled(*calls))


if __name__ == "__main__":
    unittest.main()
