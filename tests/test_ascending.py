import bisect
import random

from tests.drawing import Case
from worldorpaper.ascending import place_in


def is_less(one, other):
    return one < other


class Places(Case):
    def test_written_out(self):
        for rows, row, place in [([], 5, 0), ([5], 4, 0), ([5], 5, 1), ([5], 6, 1), ([1, 3, 3, 3, 7], 3, 4),
                                 ([1, 3, 3, 3, 7], 2, 1), ([1, 3, 3, 3, 7], 8, 5), ([1, 3, 3, 3, 7], 0, 0)]:
            self.assertEqual(place_in(rows, row, is_less), place)

    def test_drawn(self):
        rng = random.Random(1)
        for _ in range(300):
            rows = sorted(rng.randrange(9) for _ in range(rng.randrange(12)))
            row = rng.randrange(-1, 10)
            self.assertEqual(place_in(rows, row, is_less), bisect.bisect_right(rows, row))
