"""Points 41 and 42: the order and the coding of transform blocks."""

import copy
import random
import unittest

from tests.plain_symbols import Listing, Playing, plain_number
from tests.plain_syntax import plain_levels, random_levels
from tests.plain_transform import plain_scan
from thaumatrope.coder import Decoder, Encoder
from thaumatrope.contexts import LAST, LEVEL, SIGNIFICANT
from thaumatrope.errors import BadData, OutOfRange
from thaumatrope.residue import get_levels, put_levels, scan_order, to_levels, to_square
from thaumatrope.symbols import SymbolReader, SymbolWriter

# The index of each position in scan order.
INDEXES = {
    4: [[0, 1, 5, 6], [2, 4, 7, 12], [3, 8, 11, 13], [9, 10, 14, 15]],
    8: [
        [0, 1, 5, 6, 14, 15, 27, 28],
        [2, 4, 7, 13, 16, 26, 29, 42],
        [3, 8, 12, 17, 25, 30, 41, 43],
        [9, 11, 18, 24, 31, 40, 44, 53],
        [10, 19, 23, 32, 39, 45, 52, 54],
        [20, 22, 33, 38, 46, 51, 55, 60],
        [21, 34, 37, 47, 50, 56, 59, 61],
        [35, 36, 48, 49, 57, 58, 62, 63],
    ],
}
LEAST, GREATEST = -524288, 524287
OTHER_SIZES = (-8, -4, 0, 1, 2, 3, 5, 6, 7, 9, 16, 64)


class Order(unittest.TestCase):
    def test_the_example(self):
        self.assertEqual(scan_order(4)[:6], [(0, 0), (0, 1), (1, 0), (2, 0), (1, 1), (0, 2)])

    def test_position_by_position(self):
        for size, indexes in INDEXES.items():
            order = scan_order(size)
            self.assertEqual(len(order), size * size)
            for index, position in enumerate(order):
                self.assertIsInstance(position, tuple)
                row, column = position
                self.assertEqual(indexes[row][column], index)
            self.assertEqual(order, plain_scan(size))

    def test_lists_are_new(self):
        order = scan_order(4)
        order.reverse()
        self.assertEqual(scan_order(4), order[::-1])

    def test_other_sizes(self):
        for size in OTHER_SIZES:
            with self.assertRaises(OutOfRange):
                scan_order(size)


class Squares(unittest.TestCase):
    def test_squares_and_levels(self):
        for size, indexes in INDEXES.items():
            numbers = list(range(size * size))
            before = copy.deepcopy(indexes)
            self.assertEqual(to_levels(indexes), numbers)
            self.assertEqual(to_square(numbers), indexes)
            self.assertEqual(indexes, before)
            self.assertEqual(numbers, list(range(size * size)))

    def test_there_and_back(self):
        chance = random.Random(41)
        for size in (4, 8):
            for _ in range(20):
                square = [[chance.randint(-10 ** 30, 10 ** 30) for _ in range(size)] for _ in range(size)]
                self.assertEqual(to_square(to_levels(square)), square)
                levels = [chance.randint(-99, 99) for _ in range(size * size)]
                self.assertEqual(to_levels(to_square(levels)), levels)

    def test_results_are_new_lists(self):
        levels = [0] * 16
        square = to_square(levels)
        self.assertEqual(len({id(part) for part in [square, levels] + square}), 6)
        square[0][0] = 5
        self.assertEqual(levels, [0] * 16)
        found = to_levels(square)
        found[3] = 9
        self.assertEqual(square, [[5, 0, 0, 0]] + [[0] * 4] * 3)

    def test_wrong_squares(self):
        for rows in (0, 1, 2, 3, 5, 6, 7, 9, 16):
            for length in (0, 4, 8, rows):
                with self.assertRaises(OutOfRange):
                    to_levels([[0] * length for _ in range(rows)])
        for size, wrong in ((4, 8), (8, 4), (4, 3), (4, 5), (8, 7), (8, 9), (4, 0), (8, 0)):
            for place in range(size):
                square = [[0] * size for _ in range(size)]
                square[place] = [0] * wrong
                with self.assertRaises(OutOfRange):
                    to_levels(square)

    def test_wrong_numbers_of_levels(self):
        for count in (0, 1, 4, 8, 15, 17, 32, 63, 65, 128):
            with self.assertRaises(OutOfRange):
                to_square([0] * count)


class Coding(unittest.TestCase):
    def steps(self, levels):
        before = list(levels)
        listing = Listing()
        self.assertIsNone(put_levels(SymbolWriter(listing), levels))
        self.assertEqual(levels, before)
        playing = Playing([decision for _, decision in listing.steps])
        self.assertEqual(get_levels(SymbolReader(playing), 8 if len(levels) == 64 else 4), levels)
        self.assertEqual(playing.contexts, [context for context, _ in listing.steps])
        return listing.steps

    def test_one_level_alone_by_hand(self):
        plus, minus = [(LEVEL, 0), (None, 0)], [(LEVEL, 0), (None, 1)]
        self.assertEqual(self.steps([1] + [0] * 63), [(SIGNIFICANT, 1), (LAST, 1)] + plus)
        self.assertEqual(self.steps([-1] + [0] * 15), [(SIGNIFICANT, 1), (LAST, 1)] + minus)
        self.assertEqual(self.steps([0, 0, 1] + [0] * 61), [
            (SIGNIFICANT, 0), (SIGNIFICANT + 1, 0), (SIGNIFICANT + 2, 1), (LAST + 2, 1)] + plus)
        self.assertEqual(self.steps([0, 0, -1] + [0] * 13), [
            (SIGNIFICANT, 0), (SIGNIFICANT + 4, 0), (SIGNIFICANT + 8, 1), (LAST + 8, 1)] + minus)
        # The last level of all needs no flags of its own.
        self.assertEqual(self.steps([0] * 63 + [1]), [(SIGNIFICANT + i, 0) for i in range(63)] + plus)
        self.assertEqual(self.steps([0] * 15 + [-1]), [(SIGNIFICANT + 4 * i, 0) for i in range(15)] + minus)
        # The one before it has both.
        self.assertEqual(self.steps([0] * 62 + [1, 0]),
                         [(SIGNIFICANT + i, 0) for i in range(62)] + [(SIGNIFICANT + 62, 1), (LAST + 62, 1)] + plus)
        self.assertEqual(self.steps([0] * 14 + [1, 0]),
                         [(SIGNIFICANT + 4 * i, 0) for i in range(14)] + [(SIGNIFICANT + 56, 1), (LAST + 56, 1)] + plus)

    def test_several_levels_by_hand(self):
        levels = [-3, 1, 0, 2, -1] + [0] * 10 + [1]
        places = [(SIGNIFICANT, 1), (LAST, 0), (SIGNIFICANT + 4, 1), (LAST + 4, 0), (SIGNIFICANT + 8, 0),
                  (SIGNIFICANT + 12, 1), (LAST + 12, 0), (SIGNIFICANT + 16, 1), (LAST + 16, 0)]
        places += [(SIGNIFICANT + 4 * i, 0) for i in range(5, 15)]
        great = LEVEL + 16
        values = plain_number(LEVEL, 0) + [(None, 0)] + plain_number(LEVEL, 0) + [(None, 1)]
        values += plain_number(LEVEL, 1) + [(None, 0)]
        values += plain_number(great, 0) + [(None, 0)] + plain_number(great, 2) + [(None, 1)]
        self.assertEqual(self.steps(levels), places + values)

    def test_the_base_stays_after_a_great_level(self):
        listing = self.steps([1, 1, -1, 5, 1, -1] + [0] * 10)
        numbers = [context for context, _ in listing if context is not None and context >= LEVEL]
        # 1, 1 and 5 with the first base (5 - 1 is 4, with the digits 101), and the others with the second one.
        first = [LEVEL, LEVEL] + [LEVEL, LEVEL + 1, LEVEL + 2, LEVEL + 9]
        self.assertEqual(numbers, first + [LEVEL + 16] * 3)

    def test_one_level_alone_at_each_index(self):
        for count in (16, 64):
            for index in range(count):
                for level in (1, -1, 2, -2, LEAST, GREATEST):
                    levels = [0] * count
                    levels[index] = level
                    self.assertEqual(self.steps(levels), plain_levels(levels))

    def test_all_levels_used(self):
        for count in (16, 64):
            for level in (1, -1, 2, -7, LEAST, GREATEST):
                self.assertEqual(self.steps([level] * count), plain_levels([level] * count))
                self.assertEqual(self.steps([level] * (count - 1) + [0]), plain_levels([level] * (count - 1) + [0]))
            levels = [(-1) ** k * (k + 1) for k in range(count)]
            self.assertEqual(self.steps(levels), plain_levels(levels))

    def test_random_levels(self):
        chance = random.Random(42)
        for count in (16, 64):
            for share in (2, 10, 50, 90, 100):
                for _ in range(25):
                    levels = random_levels(chance, count, share)
                    levels[chance.randrange(count)] = chance.choice((1, -1, 2))
                    self.assertEqual(self.steps(levels), plain_levels(levels))

    def test_one_after_the_other_with_one_coder(self):
        chance = random.Random(43)
        blocks = []
        for _ in range(60):
            levels = random_levels(chance, chance.choice((16, 64)), chance.choice((3, 20, 95)))
            levels[chance.randrange(len(levels))] = chance.choice((LEAST, GREATEST, 1, -1))
            blocks.append((chance.randrange(2) == 1, levels))
        encoder = Encoder()
        writer = SymbolWriter(encoder)
        for flag, levels in blocks:
            writer.flag(58, flag)
            put_levels(writer, levels)
        reader = SymbolReader(Decoder(encoder.octets()))
        for flag, levels in blocks:
            self.assertEqual(reader.flag(58), flag)
            self.assertEqual(get_levels(reader, 8 if len(levels) == 64 else 4), levels)


class Refusals(unittest.TestCase):
    def refuse(self, levels):
        listing = Listing()
        encoder = Encoder()
        for coder in (listing, encoder):
            with self.assertRaises(BadData, msg=repr(levels)):
                put_levels(SymbolWriter(coder), levels)
        self.assertEqual(listing.steps, [])
        self.assertEqual(encoder.octets(), [])
        self.assertEqual([encoder.probability(context) for context in range(256)], [2048] * 256)

    def test_levels_out_of_range(self):
        for count in (16, 64):
            for index in range(count):
                for level in (LEAST - 1, GREATEST + 1, 2 ** 20, -2 ** 40):
                    levels = [1] * count
                    levels[index] = level
                    self.refuse(levels)
                    levels = [0] * count
                    levels[index] = level
                    self.refuse(levels)

    def test_zeros_only(self):
        self.refuse([0] * 16)
        self.refuse([0] * 64)

    def test_other_lengths(self):
        for count in (0, 1, 4, 8, 15, 17, 32, 63, 65, 128):
            self.refuse([1] * count)
            self.refuse([0] * count)

    def test_other_sizes(self):
        for size in OTHER_SIZES:
            playing = Playing([])
            with self.assertRaises(OutOfRange):
                get_levels(SymbolReader(playing), size)
            self.assertEqual(playing.contexts, [])


class ReadingAnything(unittest.TestCase):
    def test_any_octets(self):
        chance = random.Random(44)
        cases = [[], [0] * 100, [255] * 1000] + [[chance.randrange(256) for _ in range(900)] for _ in range(10)]
        for octets in cases:
            reader = SymbolReader(Decoder(octets))
            for size in (4, 8, 8, 4, 4, 8):
                levels = get_levels(reader, size)
                self.assertEqual(len(levels), size * size)
                self.assertTrue(all(LEAST <= level <= GREATEST for level in levels))
                self.assertTrue(any(levels))

    def test_no_octets_and_octets_that_are_all_255(self):
        for size in (4, 8):
            # Without octets no flag is True: the last level is not 0.
            self.assertEqual(get_levels(SymbolReader(Decoder([])), size), [0] * (size * size - 1) + [1])
            levels = get_levels(SymbolReader(Decoder([255] * 400)), size)
            self.assertEqual(levels, [LEAST] + [0] * (size * size - 1))

    def test_levels_are_clipped(self):
        for number in (GREATEST - 1, GREATEST, GREATEST + 1, 2 ** 20 - 1, 2 ** 20):
            for sign in (0, 1):
                steps = [(0, 1), (0, 1)] + plain_number(LEVEL, number) + [(None, sign)]
                playing = Playing([decision for _, decision in steps])
                level = max(LEAST, -number - 1) if sign else min(GREATEST, number + 1)
                self.assertEqual(get_levels(SymbolReader(playing), 4), [level] + [0] * 15)


if __name__ == "__main__":
    unittest.main()
