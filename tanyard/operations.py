"""The calls: each takes the yard and the call's arguments, and gives back its answer."""

from tanyard.line import Line
from tanyard.portions import lot_after_portions
from tanyard.ratio import at_least, lowest, minus
from tanyard.refusals import ArgumentOutsideLimits, LineAtLimit, NoLine, NoSuchPit, OnlyPit, StrengthNotReached
from tanyard.steady import deviation_from_steady, steady_discharge_strength, steady_lot_strength, steady_strengths

CREATE = 0
MOST_PITS = 6
MOST_AMOUNT = 50
MOST_NUM = 100
MOST_DEN = 100
MOST_DAYS = 24


def check_limits(value, most):
    if value < 1 or value > most:
        raise ArgumentOutsideLimits()


def strength_given(num, den):
    if num > MOST_NUM:
        raise ArgumentOutsideLimits()
    check_limits(den, MOST_DEN)
    return lowest(num, den)


def check_pit(line, pit):
    if pit >= len(line.strengths):
        raise NoSuchPit()


def check_days_left(line, count):
    if line.days + count > MOST_DAYS:
        raise LineAtLimit()


def numbers_of(fractions):
    numbers = []
    for fraction in fractions:
        numbers.extend(fraction)
    return numbers


def with_fractions(first, fractions):
    return [first] + numbers_of(fractions)


def strengths_answer(strengths):
    return with_fractions(len(strengths), strengths)


def create(yard, given):
    check_limits(given[0], MOST_PITS)
    check_limits(given[1], MOST_AMOUNT)
    check_limits(given[2], MOST_AMOUNT)
    yard.line = Line(given[0], given[1], given[2])
    return [0]


def set_fresh(yard, given):
    line = yard.line
    strength = strength_given(given[0], given[1])
    old_fresh = line.fresh
    line.fresh = strength
    return with_fractions(0, [old_fresh])


def set_raw(yard, given):
    line = yard.line
    strength = strength_given(given[0], given[1])
    old_raw = line.raw
    line.raw = strength
    return with_fractions(0, [old_raw])


def set_strength(yard, given):
    line = yard.line
    pit = given[0]
    check_pit(line, pit)
    strength = strength_given(given[1], given[2])
    old_strength = line.strengths[pit]
    line.change_strength(pit, strength)
    return with_fractions(0, [old_strength])


def run_day(yard, given):
    line = yard.line
    check_days_left(line, 1)
    return with_fractions(0, line.pass_day())


def run_days(yard, given):
    line = yard.line
    count = given[0]
    check_limits(count, MOST_DAYS)
    check_days_left(line, count)
    for day in range(count):
        line.pass_day()
    return strengths_answer(line.strengths)


def get_strengths(yard, given):
    return strengths_answer(yard.line.strengths)


def steady_state(yard, given):
    line = yard.line
    return strengths_answer(steady_strengths(line, len(line.strengths)))


def steady_lot(yard, given):
    pits = given[0]
    check_limits(pits, MOST_PITS)
    return with_fractions(0, [steady_lot_strength(yard.line, pits)])


def steady_discharge(yard, given):
    pits = given[0]
    check_limits(pits, MOST_PITS)
    return with_fractions(0, [steady_discharge_strength(yard.line, pits)])


def portions_lot(yard, given):
    portions = given[0]
    check_limits(portions, MOST_PITS)
    return with_fractions(0, [lot_after_portions(yard.line, portions)])


def deviation(yard, given):
    return with_fractions(0, [deviation_from_steady(yard.line)])


def balance(yard, given):
    line = yard.line
    return with_fractions(line.days, [line.supplied, line.tanned, line.discharged, line.pits_content()])


def pits_needed(yard, given):
    required = strength_given(given[0], given[1])
    for pits in range(1, MOST_PITS + 1):
        if at_least(steady_lot_strength(yard.line, pits), required):
            return [pits]
    raise StrengthNotReached()


def days_needed(yard, given):
    required = strength_given(given[0], given[1])
    strengths = yard.line.strengths
    for count in range(MOST_DAYS + 1):
        if at_least(strengths[-1], required):
            return [count]
        strengths = yard.line.strengths_after_day(strengths)
    raise StrengthNotReached()


def preview_days(yard, given):
    count = given[0]
    check_limits(count, MOST_DAYS)
    return strengths_answer(yard.line.strengths_after_days(count))


def add_pit(yard, given):
    line = yard.line
    if len(line.strengths) == MOST_PITS:
        raise LineAtLimit()
    line.put_pit_behind()
    return [len(line.strengths)]


def remove_pit(yard, given):
    line = yard.line
    pit = given[0]
    check_pit(line, pit)
    if len(line.strengths) == 1:
        raise OnlyPit()
    line.take_pit_out(pit)
    return [len(line.strengths)]


def countercurrent_gain(yard, given):
    line = yard.line
    pits = given[0]
    check_limits(pits, MOST_PITS)
    return with_fractions(0, [minus(steady_lot_strength(line, pits), lot_after_portions(line, pits))])


def status(yard, given):
    line = yard.line
    return [len(line.strengths), line.liquor, line.lot] + numbers_of([line.fresh, line.raw])


# Each call's number, with what performs it and how many arguments it has.
CALLS = {
    0: (create, 3),
    1: (set_fresh, 2),
    2: (set_raw, 2),
    3: (set_strength, 3),
    4: (run_day, 0),
    5: (run_days, 1),
    6: (get_strengths, 0),
    7: (steady_state, 0),
    8: (steady_lot, 1),
    9: (steady_discharge, 1),
    10: (portions_lot, 1),
    11: (deviation, 0),
    12: (balance, 0),
    13: (pits_needed, 2),
    14: (days_needed, 2),
    15: (preview_days, 1),
    16: (add_pit, 0),
    17: (remove_pit, 1),
    18: (countercurrent_gain, 1),
    19: (status, 0),
}


def argument_count(number):
    return CALLS[number][1]


def perform(yard, number, given):
    if number != CREATE and yard.line is None:
        raise NoLine()
    operation = CALLS[number][0]
    return operation(yard, given)
