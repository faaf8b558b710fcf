"""Point 40: quantization."""

import copy
import itertools
import random
import unittest

from thaumatrope.errors import OutOfRange
from thaumatrope.quant import quantize, quantize_square, restore, restore_square, step_of

STEPS = [
    1, 2, 4, 6, 9, 12, 16, 20, 25, 30, 36, 42, 49, 56, 64, 72,
    81, 90, 100, 110, 121, 132, 144, 156, 169, 182, 196, 210, 225, 240, 256, 272,
]
GREAT = 10 ** 30 + 7


def plain_level(x, s, r):
    """The level of an integer in the words of the point."""
    level = (abs(x) + (s - 1) * r // 8) // s
    return -level if x < 0 else level


class Steps(unittest.TestCase):
    def test_each_level(self):
        self.assertEqual([step_of(q) for q in range(32)], STEPS)

    def test_other_levels(self):
        for q in (-100, -1, 32, 33, 1000):
            with self.assertRaises(OutOfRange):
                step_of(q)


class Numbers(unittest.TestCase):
    def values(self, step):
        near = [k * step + more for k in (-3, -1, 0, 1, 2, 9) for more in (-1, 0, 1)]
        near += [sign * (k * step + step * r // 8 + more)
                 for sign in (-1, 1) for k in (0, 1) for r in range(9) for more in (-1, 0, 1)]
        return near + [GREAT, -GREAT, GREAT * step, -GREAT * step, GREAT * step - 1, 1 - GREAT * step]

    def test_by_hand(self):
        # The step is 9, and with the rounding 4 an absolute value increases by 4.
        self.assertEqual([quantize(x, quantizer=4) for x in (-14, -13, -5, -4, 0, 4, 5, 13, 14)],
                         [-2, -1, -1, 0, 0, 0, 1, 1, 2])
        self.assertEqual([quantize(x, quantizer=4, rounding=0) for x in (-18, -17, -9, -8, 8, 9, 17, 18)],
                         [-2, -1, -1, 0, 0, 1, 1, 2])
        self.assertEqual([quantize(x, quantizer=4, rounding=8) for x in (-10, -9, -1, 0, 1, 9, 10)],
                         [-2, -1, -1, 0, 1, 1, 2])
        # The step is 4: 3 * 5 // 8 is 1.
        self.assertEqual([quantize(x, quantizer=2, rounding=5) for x in (2, 3, 6, 7)], [0, 1, 1, 2])

    def test_each_level_and_rounding(self):
        for q, step in enumerate(STEPS):
            for r in range(9):
                for x in self.values(step):
                    level = quantize(x, quantizer=q, rounding=r)
                    self.assertEqual(level, plain_level(x, step, r))
                    self.assertLess(abs(restore(level, q) - x), step)

    def test_without_a_rounding_it_is_4(self):
        for q, step in enumerate(STEPS):
            for x in self.values(step):
                self.assertEqual(quantize(x, quantizer=q), plain_level(x, step, 4))

    def test_multiples_of_the_step(self):
        for q, step in enumerate(STEPS):
            for r in range(9):
                for level in (-GREAT, -2, -1, 0, 1, 2, 77, GREAT):
                    self.assertEqual(quantize(level * step, quantizer=q, rounding=r), level)

    def test_level_0_changes_nothing(self):
        for x in (-GREAT, -2, -1, 0, 1, 2, GREAT):
            for r in range(9):
                self.assertEqual(quantize(x, quantizer=0, rounding=r), x)
            self.assertEqual(restore(x, 0), x)

    def test_restoring(self):
        for q, step in enumerate(STEPS):
            for level in (-GREAT, -524288, -1, 0, 1, 5, GREAT):
                self.assertEqual(restore(level, q), level * step)

    def test_other_levels_and_roundings(self):
        for x in (-5, 0, 7):
            for q in (-2, -1, 32, 99):
                with self.assertRaises(OutOfRange):
                    restore(x, q)
                for r in (-1, 0, 4, 8, 9):
                    with self.assertRaises(OutOfRange):
                        quantize(x, quantizer=q, rounding=r)
                with self.assertRaises(OutOfRange):
                    quantize(x, quantizer=q)
            for r in (-2, -1, 9, 10):
                for q in (0, 5, 31):
                    with self.assertRaises(OutOfRange):
                        quantize(x, quantizer=q, rounding=r)


class Squares(unittest.TestCase):
    def test_each_number(self):
        chance = random.Random(40)
        for q, r in itertools.product((0, 1, 4, 17, 31), range(9)):
            for size in (4, 8):
                square = [[chance.choice((chance.randint(-600, 600), GREAT, -GREAT)) for _ in range(size)]
                          for _ in range(size)]
                before = copy.deepcopy(square)
                levels = quantize_square(square, quantizer=q, rounding=r)
                self.assertEqual(levels, [[quantize(x, quantizer=q, rounding=r) for x in row] for row in square])
                self.assertEqual(quantize_square(square, quantizer=q),
                                 [[quantize(x, quantizer=q) for x in row] for row in square])
                values = restore_square(levels, q)
                self.assertEqual(values, [[restore(level, q) for level in row] for row in levels])
                self.assertEqual(square, before)

    def test_results_are_new_lists(self):
        square = [[1, 2, 3, 4] for _ in range(4)]
        for q in (0, 3):
            for found in (quantize_square(square, quantizer=q), restore_square(square, q)):
                parts = [square] + square + [found] + found
                self.assertEqual(len({id(part) for part in parts}), 10)
                found[0][0] = 50
                found.clear()
                self.assertEqual(square, [[1, 2, 3, 4]] * 4)

    def test_squares_without_rows(self):
        for q in (0, 31):
            self.assertEqual(quantize_square([], quantizer=q), [])
            self.assertEqual(quantize_square([], quantizer=q, rounding=8), [])
            self.assertEqual(restore_square([], q), [])

    def test_other_levels_and_roundings(self):
        for square in ([], [[]], [[5] * 4 for _ in range(4)], [[0] * 8 for _ in range(8)]):
            for q in (-1, 32):
                with self.assertRaises(OutOfRange):
                    quantize_square(square, quantizer=q)
                with self.assertRaises(OutOfRange):
                    restore_square(square, q)
            for r in (-1, 9):
                for q in (0, 31):
                    with self.assertRaises(OutOfRange):
                        quantize_square(square, quantizer=q, rounding=r)


if __name__ == "__main__":
    unittest.main()
