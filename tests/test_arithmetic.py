"""Point 2: clipping."""

import unittest

from thaumatrope.arithmetic import clip


class Clip(unittest.TestCase):
    def test_a_number_in_the_range_stays(self):
        self.assertEqual([clip(n, 3, 6) for n in (3, 4, 5, 6)], [3, 4, 5, 6])

    def test_a_number_outside_becomes_the_nearest_one(self):
        self.assertEqual([clip(n, 3, 6) for n in (-99, 2, 7, 99)], [3, 3, 6, 6])

    def test_a_range_of_one_number(self):
        self.assertEqual([clip(n, 5, 5) for n in (4, 5, 6)], [5, 5, 5])


if __name__ == "__main__":
    unittest.main()
