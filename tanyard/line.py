"""The line of pits: its amounts, its strengths and its totals."""

from tanyard.ratio import lowest, minus, mixed, plus, times, total


class Line:
    def __init__(self, pit_count, liquor, lot):
        self.liquor = liquor
        self.lot = lot
        self.fresh = lowest(1, 1)
        self.raw = lowest(0, 1)
        self.strengths = [lowest(0, 1) for pit in range(pit_count)]
        self.supplied = lowest(0, 1)
        self.tanned = lowest(0, 1)
        self.discharged = lowest(0, 1)
        self.days = 0

    def change_strength(self, pit, strength):
        # What a pit gains or loses by hand counts as supplied,
        # or the balance would not close.
        gain = minus(strength, self.strengths[pit])
        self.supplied = plus(self.supplied, times(self.liquor + self.lot, gain))
        self.strengths[pit] = strength

    def pass_day(self):
        lot_strength = self.strengths[-1]
        discharge_strength = self.strengths[0]
        brought = plus(times(self.liquor, self.fresh), times(self.lot, self.raw))
        self.supplied = plus(self.supplied, brought)
        self.let_go(lot_strength, discharge_strength)
        self.strengths = self.strengths_after_day(self.strengths)
        self.days = self.days + 1
        return [lot_strength, discharge_strength]

    def let_go(self, lot_strength, discharge_strength):
        self.tanned = plus(self.tanned, times(self.lot, lot_strength))
        self.discharged = plus(self.discharged, times(self.liquor, discharge_strength))

    def put_pit_behind(self):
        self.strengths = self.strengths + [lowest(0, 1)]

    def take_pit_out(self, pit):
        strength = self.strengths[pit]
        self.let_go(strength, strength)
        self.strengths = self.strengths[:pit] + self.strengths[pit + 1:]

    def pits_content(self):
        return times(self.liquor + self.lot, total(self.strengths))

    def strengths_after_day(self, strengths):
        from_next = strengths[1:] + [self.fresh]
        from_previous = [self.raw] + strengths[:-1]
        return [
            mixed(self.liquor, liquor_strength, self.lot, lot_strength)
            for liquor_strength, lot_strength in zip(from_next, from_previous)
        ]

    def strengths_after_days(self, count):
        strengths = list(self.strengths)
        for day in range(count):
            strengths = self.strengths_after_day(strengths)
        return strengths


class Yard:
    # There is no line until a call creates one.
    def __init__(self):
        self.line = None
