"""For comparison: a raw lot that gets its fresh liquor in separate portions."""

from tanyard.ratio import mixed


def lot_after_portions(line, portions):
    # A portion is liquor / portions. With both amounts taken that many times
    # they are whole numbers, and mix to the same strength.
    enlarged_lot = portions * line.lot
    strength = line.raw
    for portion in range(portions):
        strength = mixed(line.liquor, line.fresh, enlarged_lot, strength)
    return strength
