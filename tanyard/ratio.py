"""Exact fractions: tuples (top, bottom) in lowest terms, with a bottom above 0."""


def greatest_divisor(first, second):
    # A rest has the sign of what it is divided by, so with second above 0
    # the divisor is above 0 even where first is below.
    while second != 0:
        rest = first % second
        first = second
        second = rest
    return first


def lowest(top, bottom):
    divisor = greatest_divisor(top, bottom)
    return (top // divisor, bottom // divisor)


def plus(first, second):
    top = first[0] * second[1] + second[0] * first[1]
    return lowest(top, first[1] * second[1])


def minus(first, second):
    return plus(first, (-second[0], second[1]))


def at_least(first, second):
    return first[0] * second[1] >= second[0] * first[1]


def distance(first, second):
    between = minus(first, second)
    return (abs(between[0]), between[1])


def greatest(fractions):
    found = fractions[0]
    for fraction in fractions:
        if at_least(fraction, found):
            found = fraction
    return found


def total(fractions):
    found = (0, 1)
    for fraction in fractions:
        found = plus(found, fraction)
    return found


def times(amount, strength):
    return lowest(amount * strength[0], strength[1])


def mixed(first_amount, first, second_amount, second):
    top = first_amount * first[0] * second[1] + second_amount * second[0] * first[1]
    bottom = (first_amount + second_amount) * first[1] * second[1]
    return lowest(top, bottom)
