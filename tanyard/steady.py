"""The steady state: the strengths of pits that a day doesn't change."""

from tanyard.ratio import distance, greatest, mixed


def step_weights(pits, liquor, lot):
    # Where a day changes nothing, liquor times the step in strength to the next
    # pit equals lot times the step from the previous one. So the steps from raw
    # over all pits to fresh are to each other as powers of liquor and lot.
    weights = [1]
    for pit in range(pits):
        weights = [weight * liquor for weight in weights] + [weights[-1] * lot]
    return weights


def steady_strengths(line, pits):
    weights = step_weights(pits, line.liquor, line.lot)
    strengths = []
    # The weights up to a pit tell how far it lies on the way from raw to fresh.
    for pit in range(pits):
        passed = sum(weights[:pit + 1])
        left = sum(weights[pit + 1:])
        strengths.append(mixed(passed, line.fresh, left, line.raw))
    return strengths


def steady_lot_strength(line, pits):
    return steady_strengths(line, pits)[-1]


def steady_discharge_strength(line, pits):
    return steady_strengths(line, pits)[0]


def deviation_from_steady(line):
    steady = steady_strengths(line, len(line.strengths))
    return greatest([distance(strength, goal) for strength, goal in zip(line.strengths, steady)])
