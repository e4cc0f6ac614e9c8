"""What the tests share: the calls by name, a request asked in pieces, and a model to compare with."""

from copy import copy
from fractions import Fraction

from tanyard.pitline import answers

LARGEST = 4294967295


def create(pit_count, liquor, lot):
    return [0, pit_count, liquor, lot]


def set_fresh(num, den):
    return [1, num, den]


def set_raw(num, den):
    return [2, num, den]


def set_strength(pit, num, den):
    return [3, pit, num, den]


def run_day():
    return [4]


def run_days(count):
    return [5, count]


def get_strengths():
    return [6]


def steady_state():
    return [7]


def steady_lot(pits):
    return [8, pits]


def steady_discharge(pits):
    return [9, pits]


def portions_lot(portions):
    return [10, portions]


def deviation():
    return [11]


def balance():
    return [12]


def pits_needed(num, den):
    return [13, num, den]


def days_needed(num, den):
    return [14, num, den]


def preview_days(count):
    return [15, count]


def add_pit():
    return [16]


def remove_pit(pit):
    return [17, pit]


def countercurrent_gain(pits):
    return [18, pits]


def status():
    return [19]


def apart(laid):
    """The answers that are laid one behind another, as one list each."""
    found = []
    start = 0
    while start < len(laid):
        end = start + 1 + laid[start]
        if laid[start] < 1 or end > len(laid):
            raise AssertionError(f"wrong length {laid[start]} at {start} of {laid}")
        found.append(laid[start + 1:end])
        start = end
    return found


def ask(*calls):
    """One request; the answers, one list for each call."""
    request = [number for call in calls for number in call]
    found = apart(answers(request))
    if len(found) != len(calls):
        raise AssertionError(f"{len(found)} answers to {len(calls)} calls")
    return found


def last(*calls):
    return ask(*calls)[-1]


def fractions_in(answer):
    """What stands behind the first number of an answer, as fractions."""
    return [Fraction(answer[k], answer[k + 1]) for k in range(1, len(answer), 2)]


def flat(first, fractions):
    """An answer as the document lays it."""
    answer = [first]
    for fraction in fractions:
        answer += [fraction.numerator, fraction.denominator]
    return answer


def solved(rows):
    """The solution of linear equations; each row ends with its right side."""
    rows = [list(row) for row in rows]
    for k in range(len(rows)):
        pivot = next(j for j in range(k, len(rows)) if rows[j][k] != 0)
        rows[k], rows[pivot] = rows[pivot], rows[k]
        rows[k] = [value / rows[k][k] for value in rows[k]]
        for j in range(len(rows)):
            if j != k:
                factor = rows[j][k]
                rows[j] = [a - factor * b for a, b in zip(rows[j], rows[k])]
    return [row[-1] for row in rows]


class Model:
    """The document's words over Python's own fractions, step by step."""

    def __init__(self):
        self.pits = None

    def day(self):
        lots = list(self.pits)
        liquors = list(self.pits)
        left = [lots.pop(), liquors.pop(0)]
        self.supplied += self.liquor * self.fresh + self.lot * self.raw
        self.tanned += self.lot * left[0]
        self.discharged += self.liquor * left[1]
        lots.insert(0, self.raw)
        liquors.append(self.fresh)
        total = self.liquor + self.lot
        self.pits = [(self.liquor * a + self.lot * b) / total for a, b in zip(liquors, lots)]
        self.days += 1
        return left

    def steady(self, count):
        """Solves the equations that say that a day changes nothing."""
        rows = []
        for k in range(count):
            row = [Fraction(0)] * (count + 1)
            row[k] += self.liquor + self.lot
            if k > 0:
                row[k - 1] -= self.lot
            else:
                row[count] += self.lot * self.raw
            if k < count - 1:
                row[k + 1] -= self.liquor
            else:
                row[count] += self.liquor * self.fresh
            rows.append(row)
        return solved(rows)

    def portions(self, count):
        portion = Fraction(self.liquor, count)
        strength = self.raw
        for k in range(count):
            strength = (portion * self.fresh + self.lot * strength) / (portion + self.lot)
        return strength

    def ahead(self, count):
        """The line as it would be after some days, on a model of its own."""
        later = copy(self)
        later.pits = list(self.pits)
        for day in range(count):
            later.day()
        return later

    def answer(self, call):
        number, given = call[0], call[1:]
        if number == 0:
            return self.create(*given)
        if self.pits is None:
            return [-11]
        steps = {1: self.set_fresh, 2: self.set_raw, 3: self.set_strength, 4: self.run_day, 5: self.run_days,
                 6: self.get_strengths, 7: self.steady_state, 8: self.steady_lot, 9: self.steady_discharge,
                 10: self.portions_lot, 11: self.deviation, 12: self.balance, 13: self.pits_needed,
                 14: self.days_needed, 15: self.preview_days, 16: self.add_pit, 17: self.remove_pit,
                 18: self.countercurrent_gain, 19: self.status}
        return steps[number](*given)

    def create(self, pit_count, liquor, lot):
        if not (1 <= pit_count <= 6 and 1 <= liquor <= 50 and 1 <= lot <= 50):
            return [-22]
        self.pits = [Fraction(0)] * pit_count
        self.liquor, self.lot, self.days = liquor, lot, 0
        self.fresh, self.raw = Fraction(1), Fraction(0)
        self.supplied = self.tanned = self.discharged = Fraction(0)
        return [0]

    def set_fresh(self, num, den):
        if num > 100 or not 1 <= den <= 100:
            return [-22]
        old, self.fresh = self.fresh, Fraction(num, den)
        return flat(0, [old])

    def set_raw(self, num, den):
        if num > 100 or not 1 <= den <= 100:
            return [-22]
        old, self.raw = self.raw, Fraction(num, den)
        return flat(0, [old])

    def set_strength(self, pit, num, den):
        if pit >= len(self.pits):
            return [-2]
        if num > 100 or not 1 <= den <= 100:
            return [-22]
        old, self.pits[pit] = self.pits[pit], Fraction(num, den)
        self.supplied += (self.liquor + self.lot) * (self.pits[pit] - old)
        return flat(0, [old])

    def run_day(self):
        return [-28] if self.days == 24 else flat(0, self.day())

    def run_days(self, count):
        if not 1 <= count <= 24:
            return [-22]
        if self.days + count > 24:
            return [-28]
        for day in range(count):
            self.day()
        return self.get_strengths()

    def get_strengths(self):
        return flat(len(self.pits), self.pits)

    def steady_state(self):
        return flat(len(self.pits), self.steady(len(self.pits)))

    def steady_lot(self, pits):
        return flat(0, self.steady(pits)[-1:]) if 1 <= pits <= 6 else [-22]

    def steady_discharge(self, pits):
        return flat(0, self.steady(pits)[:1]) if 1 <= pits <= 6 else [-22]

    def portions_lot(self, portions):
        return flat(0, [self.portions(portions)]) if 1 <= portions <= 6 else [-22]

    def deviation(self):
        return flat(0, [max(abs(a - b) for a, b in zip(self.pits, self.steady(len(self.pits))))])

    def balance(self):
        content = (self.liquor + self.lot) * sum(self.pits)
        return flat(self.days, [self.supplied, self.tanned, self.discharged, content])

    def pits_needed(self, num, den):
        if num > 100 or not 1 <= den <= 100:
            return [-22]
        enough = [pits for pits in range(1, 7) if self.steady(pits)[-1] >= Fraction(num, den)]
        return enough[:1] or [-33]

    def days_needed(self, num, den):
        if num > 100 or not 1 <= den <= 100:
            return [-22]
        enough = [count for count in range(25) if self.ahead(count).pits[-1] >= Fraction(num, den)]
        return enough[:1] or [-33]

    def preview_days(self, count):
        return self.ahead(count).get_strengths() if 1 <= count <= 24 else [-22]

    def add_pit(self):
        if len(self.pits) == 6:
            return [-28]
        self.pits.append(Fraction(0))
        return [len(self.pits)]

    def remove_pit(self, pit):
        if pit >= len(self.pits):
            return [-2]
        if len(self.pits) == 1:
            return [-33]
        strength = self.pits.pop(pit)
        self.tanned += self.lot * strength
        self.discharged += self.liquor * strength
        return [len(self.pits)]

    def countercurrent_gain(self, pits):
        return flat(0, [self.steady(pits)[-1] - self.portions(pits)]) if 1 <= pits <= 6 else [-22]

    def status(self):
        return [len(self.pits), self.liquor, self.lot] + flat(0, [self.fresh, self.raw])[1:]


def modelled(*calls):
    model = Model()
    return [model.answer(call) for call in calls]
