"""Mixed requests, compared with the model that follows the document's words."""

import random
import unittest

from support import LARGEST, ask, modelled

# For each call, what its arguments are drawn from; the model refuses those outside.
PITS = [1, 2, 3, 4, 5, 6] * 3 + [0, 7, LARGEST]
AMOUNTS = [1, 2, 3, 7, 12, 49, 50] * 3 + [0, 51, LARGEST]
NUMS = [0, 1, 5, 50, 99, 100] * 3 + [101, LARGEST]
DENS = [1, 2, 10, 83, 99, 100] * 3 + [0, 101, LARGEST]
PIT = [0, 1, 2, 3, 4, 5] * 3 + [6, LARGEST]
COUNTS = [1, 2, 3, 4, 5, 23, 24] * 3 + [0, 25, LARGEST]
ARGUMENTS = {0: (PITS, AMOUNTS, AMOUNTS), 1: (NUMS, DENS), 2: (NUMS, DENS), 3: (PIT, NUMS, DENS), 4: (), 5: (COUNTS,),
             6: (), 7: (), 8: (PITS,), 9: (PITS,), 10: (PITS,), 11: (), 12: (), 13: (NUMS, DENS), 14: (NUMS, DENS),
             15: (COUNTS,), 16: (), 17: (PIT,), 18: (PITS,), 19: ()}
# Calls that change the line come more often, so that the others find lines of many kinds.
NUMBERS = list(range(20)) + [3] * 4 + [4] * 5 + [16] * 4 + [17] * 2


def drawn(chance):
    number = chance.choice(NUMBERS)
    return [number] + [chance.choice(values) for values in ARGUMENTS[number]]


class AgainstModel(unittest.TestCase):
    def test_mixed_requests(self):
        chance = random.Random(163)
        for trial in range(400):
            calls = [drawn(chance) for k in range(chance.randint(1, 60))]
            self.assertEqual(ask(*calls), modelled(*calls), calls)

    def test_requests_on_one_line(self):
        chance = random.Random(361)
        for trial in range(200):
            calls = [[0, chance.randint(1, 6), chance.randint(1, 50), chance.randint(1, 50)]]
            calls += [call for call in (drawn(chance) for k in range(50)) if call[0] != 0]
            self.assertEqual(ask(*calls), modelled(*calls), calls)


if __name__ == "__main__":
    unittest.main()
