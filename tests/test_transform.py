"""Points 35 to 39: transforms that can be undone."""

import copy
import itertools
import random
import unittest

from tests.plain_transform import plain_forward, plain_forward_square, plain_inverse, plain_inverse_square
from thaumatrope.errors import OutOfRange
from thaumatrope.transform import (
    forward, forward_square, inverse, inverse_square, join_pair, split_pair, turn_back, turn_pair,
)

GREAT = 10 ** 40
NUMBERS = list(range(-9, 10)) + [-GREAT - 1, -GREAT, -GREAT + 1, GREAT - 1, GREAT, GREAT + 1, 2 ** 133 + 7]


def random_number(chance):
    return chance.choice((chance.randint(-3, 3), chance.randint(-9999, 9999), chance.randint(-GREAT, GREAT)))


class Pairs(unittest.TestCase):
    def test_splitting_by_hand(self):
        cases = [
            ((5, 2), (3, 3)), ((2, 5), (3, -3)), ((0, 0), (0, 0)), ((1, 0), (0, 1)), ((0, 1), (0, -1)),
            ((-1, 0), (-1, -1)), ((0, -1), (-1, 1)), ((-1, -2), (-2, 1)), ((-3, -4), (-4, 1)), ((-4, -4), (-4, 0)),
            ((7, -10), (-2, 17)), ((GREAT, -GREAT - 1), (-1, 2 * GREAT + 1)), ((GREAT, 1), (GREAT // 2, GREAT - 1)),
        ]
        for pair, expected in cases:
            self.assertEqual(split_pair(*pair), expected)
            self.assertEqual(join_pair(*expected), pair)
            self.assertIsInstance(split_pair(*pair), tuple)
            self.assertIsInstance(join_pair(*expected), tuple)

    def test_joining_by_hand(self):
        cases = [
            ((0, 0), (0, 0)), ((0, 1), (1, 0)), ((0, -1), (0, 1)), ((0, 2), (1, -1)), ((0, -2), (-1, 1)),
            ((3, -3), (2, 5)), ((-5, 3), (-3, -6)), ((-5, -4), (-7, -3)), ((GREAT, 1), (GREAT + 1, GREAT)),
        ]
        for pair, expected in cases:
            self.assertEqual(join_pair(*pair), expected)

    def test_splitting_and_joining_undo_each_other(self):
        for a, b in itertools.product(NUMBERS, repeat=2):
            self.assertEqual(join_pair(*split_pair(a, b)), (a, b))
            self.assertEqual(split_pair(*join_pair(a, b)), (a, b))

    def test_turning_by_hand(self):
        # b: 4 + 76 // 32 = 6; a: 10 - 88 // 32 = 8; b: 6 + 64 // 32 = 8.
        self.assertEqual(turn_pair(10, 4, outer=6, inner=12), (8, 8))
        # b: -3 + -74 // 32 = -6; a: -10 - -92 // 32 = -7; b: -6 + -47 // 32 = -8.
        self.assertEqual(turn_pair(-10, -3, outer=9, inner=18), (-7, -8))
        # b: 0 + 16 // 32 = 0; a: 0 - 16 // 32 = 0.
        self.assertEqual(turn_pair(0, 0, outer=63, inner=63), (0, 0))
        # b: 0 + 48 // 32 = 1; a: 16 - 17 // 32 = 16; b: 1 + 48 // 32 = 2. One below it is rounded down.
        self.assertEqual(turn_pair(16, 0, outer=2, inner=1), (16, 2))
        self.assertEqual(turn_pair(15, 1, outer=1, inner=0), (15, 1))
        self.assertEqual(turn_pair(7, 9, outer=0, inner=0), (7, 9))
        self.assertIsInstance(turn_pair(1, 2, outer=3, inner=4), tuple)

    def test_turning_back_by_hand(self):
        self.assertEqual(turn_back(8, 8, outer=6, inner=12), (10, 4))
        self.assertEqual(turn_back(-7, -8, outer=9, inner=18), (-10, -3))
        # b: 5 - 76 // 32 = 3; a: 10 + 52 // 32 = 11; b: 3 - 82 // 32 = 1.
        self.assertEqual(turn_back(10, 5, outer=6, inner=12), (11, 1))
        self.assertIsInstance(turn_back(1, 2, outer=3, inner=4), tuple)

    def test_turning_and_turning_back_undo_each_other(self):
        chance = random.Random(36)
        weights = list(itertools.product(range(64), repeat=2))
        self.assertEqual(len(weights), 4096)
        for outer, inner in weights:
            a, b = random_number(chance), random_number(chance)
            turned = turn_pair(a, b, outer=outer, inner=inner)
            self.assertEqual(turn_back(*turned, outer=outer, inner=inner), (a, b))
            turned = turn_back(a, b, outer=outer, inner=inner)
            self.assertEqual(turn_pair(*turned, outer=outer, inner=inner), (a, b))
        for a, b in itertools.product(NUMBERS, repeat=2):
            for outer, inner in ((6, 12), (3, 6), (10, 18), (63, 63), (0, 63), (63, 0)):
                turned = turn_pair(a, b, outer=outer, inner=inner)
                self.assertEqual(turn_back(*turned, outer=outer, inner=inner), (a, b))

    def test_the_steps_of_turning(self):
        for a, b in itertools.product(NUMBERS, repeat=2):
            for p, q in ((6, 12), (3, 6), (10, 18), (1, 63)):
                second = b + ((p * a + 16) >> 5)
                first = a - ((q * second + 16) >> 5)
                expected = first, second + ((p * first + 16) >> 5)
                self.assertEqual(turn_pair(a, b, outer=p, inner=q), expected)


class Lists(unittest.TestCase):
    def both(self, values, expected):
        before = list(values), list(expected)
        self.assertEqual(forward(values), expected)
        self.assertEqual(inverse(expected), values)
        self.assertIsNot(forward(values), values)
        self.assertIsNot(inverse(expected), expected)
        self.assertEqual((values, expected), before)

    def test_four_by_hand(self):
        # (1, 4) -> 2, -3; (2, 3) -> 2, -1; (2, 2) -> 2, 0; (-3, -1): b = -2, a = -2, b = -2.
        self.both([1, 2, 3, 4], [2, -2, 0, -2])
        # (100, 10) -> 55, 90; (50, 20) -> 35, 30; (55, 35) -> 45, 20;
        # (90, 30): b = 30 + 556 // 32 = 47, a = 90 - 580 // 32 = 72, b = 47 + 448 // 32 = 61.
        self.both([100, 50, 20, 10], [45, 72, 20, 61])
        # (-7, 5) -> -1, -12; (3, -8) -> -3, 11; (-1, -3) -> -2, 2;
        # (-12, 11): b = 11 + -56 // 32 = 9, a = -12 - 124 // 32 = -15, b = 9 + -74 // 32 = 6.
        self.both([-7, 3, -8, 5], [-2, -15, 2, 6])
        self.both([0, 0, 0, 0], [0, 0, 0, 0])
        self.both([9, 9, 9, 9], [9, 0, 0, 0])

    def test_eight_by_hand(self):
        # (1, 128) -> 64, -127; (2, 64) -> 33, -62; (4, 32) -> 18, -28; (8, 16) -> 12, -8.
        # 64, 33, 18, 12: (64, 12) -> 38, 52; (33, 18) -> 25, 15; (38, 25) -> 31, 13;
        #   (52, 15): b = 15 + 328 // 32 = 25, a = 52 - 316 // 32 = 43, b = 25 + 274 // 32 = 33.
        # (-127, -8) by 3, 6: b = -8 + -365 // 32 = -20, a = -127 - -104 // 32 = -123, b = -20 + -353 // 32 = -32.
        # (-62, -28) by 10, 18: b = -28 + -604 // 32 = -47, a = -62 - -830 // 32 = -36, b = -47 + -344 // 32 = -58.
        # (-123, -36) -> -80, -87; (-58, -32) -> -45, -26.
        self.both([1, 2, 4, 8, 16, 32, 64, 128], [31, -80, 43, -45, 13, -87, 33, -26])
        self.both([0] * 8, [0] * 8)
        self.both([-5] * 8, [-5] + [0] * 7)

    def test_places_of_the_results(self):
        # Only x0 and x7 differ from 0, so only h0 does: d0 and d3 hold what becomes f0, f1 and f2, f3.
        # (64, -64) -> 0, 128; (128, 0) by 3, 6: b = 400 // 32 = 12, a = 128 - 88 // 32 = 126, b = 12 + 394 // 32 = 24.
        # (126, 0) -> 63, 126; (0, 24) -> 12, -24.
        self.both([64, 0, 0, 0, 0, 0, 0, -64], [0, 63, 0, 12, 0, 126, 0, -24])

    def test_small_lists(self):
        for values in itertools.product((-2, -1, 0, 1, 3), repeat=4):
            values = list(values)
            self.assertEqual(forward(values), plain_forward(values))
            self.assertEqual(inverse(values), plain_inverse(values))
            self.assertEqual(inverse(forward(values)), values)
            self.assertEqual(forward(inverse(values)), values)

    def test_random_lists(self):
        chance = random.Random(37)
        for size in (4, 8):
            for _ in range(400):
                values = [random_number(chance) for _ in range(size)]
                before = list(values)
                self.assertEqual(forward(values), plain_forward(values))
                self.assertEqual(inverse(values), plain_inverse(values))
                self.assertEqual(inverse(forward(values)), values)
                self.assertEqual(forward(inverse(values)), values)
                self.assertEqual(values, before)

    def test_other_lengths(self):
        for length in (0, 1, 2, 3, 5, 6, 7, 9, 12, 16, 64):
            for function in (forward, inverse):
                with self.assertRaises(OutOfRange):
                    function([1] * length)


class Squares(unittest.TestCase):
    def random_square(self, chance, size):
        return [[random_number(chance) for _ in range(size)] for _ in range(size)]

    def test_by_hand(self):
        # Each row becomes [2, -2, 0, -2] times 0, 1, 0, 0, and then each column is transformed.
        square = [[0] * 4, [1, 2, 3, 4], [0] * 4, [0] * 4]
        columns = [forward([0, number, 0, 0]) for number in (2, -2, 0, -2)]
        self.assertEqual(forward_square(square), [[column[k] for column in columns] for k in range(4)])
        # (0, 0) -> 0, 0; (2, 0) -> 1, 2; (0, 1) -> 0, -1; (0, 2): b = 2, a = 0 - 40 // 32 = -1, b = 2 + 10 // 32 = 2.
        self.assertEqual(columns[0], [0, -1, -1, 2])
        self.assertEqual(forward_square([[7] * 8] * 8), [[7] + [0] * 7] + [[0] * 8] * 7)
        self.assertEqual(inverse_square([[-7, 0, 0, 0]] + [[0] * 4] * 3), [[-7] * 4] * 4)

    def test_rows_come_before_columns(self):
        # Rounding makes the order of the two visible.
        chance = random.Random(39)
        differ = 0
        for size in (4, 8):
            for _ in range(30):
                square = [[chance.randint(-9, 9) for _ in range(size)] for _ in range(size)]
                found = forward_square(square)
                self.assertEqual(found, plain_forward_square(square))
                turned = plain_forward_square([list(column) for column in zip(*square)])
                differ += found != [list(column) for column in zip(*turned)]
        self.assertGreater(differ, 20)

    def test_forward_and_inverse_undo_each_other(self):
        chance = random.Random(40)
        for size in (4, 8):
            for _ in range(60):
                square = self.random_square(chance, size)
                before = copy.deepcopy(square)
                self.assertEqual(forward_square(square), plain_forward_square(square))
                self.assertEqual(inverse_square(square), plain_inverse_square(square))
                self.assertEqual(inverse_square(forward_square(square)), square)
                self.assertEqual(forward_square(inverse_square(square)), square)
                self.assertEqual(square, before)

    def test_results_are_new_lists(self):
        for size in (4, 8):
            row = [1] * size
            for function in (forward_square, inverse_square):
                square = [row] * size
                found = function(square)
                self.assertEqual(len({id(part) for part in [square, row, found] + found}), size + 3)
                found[0][0] = 99
                self.assertEqual(row, [1] * size)

    def extreme_squares(self, size, m):
        """Squares of which each integer is m or -m: patterns, and those that a transform is most sensitive to."""
        yield [[m] * size for _ in range(size)]
        yield [[-m] * size for _ in range(size)]
        yield [[m if (row + column) % 2 else -m for column in range(size)] for row in range(size)]
        for place in range(size * size):
            unit = [[0] * size for _ in range(size)]
            unit[place // size][place % size] = 2 ** 40
            # Where the inverse of one number is positive or negative, that number of the transform grows.
            signs = [[1 if number > 0 else -1 for number in row] for row in inverse_square(unit)]
            yield [[m * sign for sign in row] for row in signs]
            yield [[-m * sign for sign in row] for row in signs]
        chance = random.Random(m)
        for _ in range(20):
            yield [[chance.choice((-m, m)) for _ in range(size)] for _ in range(size)]

    def test_the_bound(self):
        for size in (4, 8):
            for m in (0, 1, 2, 255, 4095, 10 ** 30):
                for square in self.extreme_squares(size, m):
                    found = forward_square(square)
                    self.assertLessEqual(max(abs(number) for row in found for number in row), 64 * m + 72)
                    self.assertEqual(inverse_square(found), square)

    def test_wrong_squares(self):
        for function in (forward_square, inverse_square):
            for rows in (0, 1, 2, 3, 5, 6, 7, 9, 16):
                for length in (0, 4, 8, rows):
                    with self.assertRaises(OutOfRange):
                        function([[0] * length for _ in range(rows)])
            for size, wrong in ((4, 8), (8, 4), (4, 3), (4, 5), (8, 7), (8, 9), (4, 0), (8, 0)):
                with self.assertRaises(OutOfRange):
                    function([[0] * wrong for _ in range(size)])
                for place in range(size):
                    square = [[0] * size for _ in range(size)]
                    square[place] = [0] * wrong
                    with self.assertRaises(OutOfRange):
                        function(square)


if __name__ == "__main__":
    unittest.main()
