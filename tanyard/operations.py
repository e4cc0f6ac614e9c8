"""The calls: each takes the yard and the call's arguments, and gives back its answer."""

from tanyard.line import Line
from tanyard.ratio import lowest
from tanyard.refusals import ArgumentOutsideLimits, LineAtLimit, NoLine, NoSuchPit
from tanyard.steady import steady_strengths

CREATE = 0
MOST_PITS = 6
MOST_AMOUNT = 50
MOST_NUM = 100
MOST_DEN = 100
MOST_DAYS = 24


def check_limits(value, most):
    if value < 1 or value > most:
        raise ArgumentOutsideLimits()


def strength_given(num, den):
    if num > MOST_NUM:
        raise ArgumentOutsideLimits()
    check_limits(den, MOST_DEN)
    return lowest(num, den)


def check_pit(line, pit):
    if pit >= len(line.strengths):
        raise NoSuchPit()


def check_days_left(line, count):
    if line.days + count > MOST_DAYS:
        raise LineAtLimit()


def with_fractions(first, fractions):
    answer = [first]
    for fraction in fractions:
        answer.extend(fraction)
    return answer


def strengths_answer(strengths):
    return with_fractions(len(strengths), strengths)


def create(yard, given):
    check_limits(given[0], MOST_PITS)
    check_limits(given[1], MOST_AMOUNT)
    check_limits(given[2], MOST_AMOUNT)
    yard.line = Line(given[0], given[1], given[2])
    return [0]


def set_fresh(yard, given):
    line = yard.line
    strength = strength_given(given[0], given[1])
    old_fresh = line.fresh
    line.fresh = strength
    return with_fractions(0, [old_fresh])


def set_raw(yard, given):
    line = yard.line
    strength = strength_given(given[0], given[1])
    old_raw = line.raw
    line.raw = strength
    return with_fractions(0, [old_raw])


def set_strength(yard, given):
    line = yard.line
    pit = given[0]
    check_pit(line, pit)
    strength = strength_given(given[1], given[2])
    old_strength = line.strengths[pit]
    line.change_strength(pit, strength)
    return with_fractions(0, [old_strength])


def run_day(yard, given):
    line = yard.line
    check_days_left(line, 1)
    return with_fractions(0, line.pass_day())


def run_days(yard, given):
    line = yard.line
    count = given[0]
    check_limits(count, MOST_DAYS)
    check_days_left(line, count)
    for day in range(count):
        line.pass_day()
    return strengths_answer(line.strengths)


def get_strengths(yard, given):
    return strengths_answer(yard.line.strengths)


def steady_state(yard, given):
    line = yard.line
    return strengths_answer(steady_strengths(line, len(line.strengths)))


def steady_lot(yard, given):
    pits = given[0]
    check_limits(pits, MOST_PITS)
    return with_fractions(0, [steady_strengths(yard.line, pits)[-1]])


def steady_discharge(yard, given):
    pits = given[0]
    check_limits(pits, MOST_PITS)
    return with_fractions(0, [steady_strengths(yard.line, pits)[0]])


# Each call's number, with what performs it and how many arguments it has.
CALLS = {
    0: (create, 3),
    1: (set_fresh, 2),
    2: (set_raw, 2),
    3: (set_strength, 3),
    4: (run_day, 0),
    5: (run_days, 1),
    6: (get_strengths, 0),
    7: (steady_state, 0),
    8: (steady_lot, 1),
    9: (steady_discharge, 1),
}


def argument_count(number):
    return CALLS[number][1]


def perform(yard, number, given):
    if number != CREATE and yard.line is None:
        raise NoLine()
    operation = CALLS[number][0]
    return operation(yard, given)
