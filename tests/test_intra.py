"""Points 26 and 27: prediction from the samples around an area."""

import copy
import random
import unittest

from tests.plain_samples import plain_area
from thaumatrope.errors import OutOfRange
from thaumatrope.intra import borders, predict_area

# A plane in which each sample tells its place.
PLANE = [[16 * y + x for x in range(16)] for y in range(16)]


class Borders(unittest.TestCase):
    def found(self, x, y, n, first_row, middle=128):
        before = copy.deepcopy(PLANE)
        result = borders(PLANE, x, y, n, first_row=first_row, middle=middle)
        self.assertEqual(PLANE, before)
        self.assertIsInstance(result, tuple)
        self.assertIsInstance(result[0], list)
        self.assertIsInstance(result[1], list)
        self.assertIsNot(result[0], result[1])
        result[0].append(1)
        result[1].append(2)
        self.assertEqual(PLANE, before)
        return result[0][:-1], result[1][:-1], result[2]

    def test_both_available(self):
        self.assertEqual(self.found(4, 4, 4, 0), ([52, 53, 54, 55], [67, 83, 99, 115], 51))
        for n in (4, 8):
            for x in range(4, 17 - n, 4):
                for y in range(4, 17 - n, 4):
                    above = [PLANE[y - 1][x + k] for k in range(n)]
                    left = [PLANE[y + k][x - 1] for k in range(n)]
                    self.assertEqual(self.found(x, y, n, y - 4), (above, left, PLANE[y - 1][x - 1]))

    def test_only_the_row_above(self):
        self.assertEqual(self.found(0, 4, 4, 0), ([48, 49, 50, 51], [48] * 4, 48))
        self.assertEqual(self.found(0, 8, 8, 0), (list(range(112, 120)), [112] * 8, 112))
        self.assertEqual(self.found(0, 12, 4, 8), ([176, 177, 178, 179], [176] * 4, 176))

    def test_only_the_column_to_the_left(self):
        self.assertEqual(self.found(4, 0, 4, 0), ([3] * 4, [3, 19, 35, 51], 3))
        self.assertEqual(self.found(8, 0, 8, 0), ([7] * 8, [16 * k + 7 for k in range(8)], 7))

    def test_neither(self):
        for middle in (128, 512, 2048):
            self.assertEqual(self.found(0, 0, 4, 0, middle), ([middle] * 4, [middle] * 4, middle))
            self.assertEqual(self.found(0, 0, 8, 0, middle), ([middle] * 8, [middle] * 8, middle))
            self.assertEqual(self.found(0, 8, 8, 8, middle), ([middle] * 8, [middle] * 8, middle))

    def test_the_first_row_of_a_slice_has_no_row_above(self):
        self.assertEqual(self.found(8, 8, 8, 8), ([135] * 8, [16 * k + 7 for k in range(8, 16)], 135))
        self.assertEqual(self.found(4, 8, 4, 8), ([131] * 4, [131, 147, 163, 179], 131))
        # Within the slice there is one, also one row further down.
        self.assertEqual(self.found(4, 12, 4, 8), ([180, 181, 182, 183], [195, 211, 227, 243], 179))
        self.assertEqual(self.found(4, 8, 4, 7), ([116, 117, 118, 119], [131, 147, 163, 179], 115))

    def test_one_row_and_one_column_are_enough(self):
        for n in (4, 8):
            above = [PLANE[0][1 + k] for k in range(n)]
            left = [PLANE[1 + k][0] for k in range(n)]
            self.assertEqual(self.found(1, 1, n, 0), (above, left, PLANE[0][0]))
            self.assertEqual(self.found(1, 1, n, 1), ([left[0]] * n, left, left[0]))

    def test_the_corner_of_an_area_at_the_end_of_the_plane(self):
        self.assertEqual(self.found(12, 12, 4, 0)[2], PLANE[11][11])
        self.assertEqual(self.found(8, 8, 8, 0), (
            [PLANE[7][8 + k] for k in range(8)], [PLANE[8 + k][7] for k in range(8)], PLANE[7][7],
        ))


class Modes(unittest.TestCase):
    def check(self, above, left, corner, top):
        before = list(above), list(left)
        for mode in range(8):
            area = predict_area(above, left, corner, mode, top=top)
            self.assertEqual(area, plain_area(above, left, corner, mode, top), msg=mode)
            self.assertEqual((above, left), before)
            rows = [area] + area
            self.assertEqual(len({id(row) for row in rows} | {id(above), id(left)}), len(rows) + 2)

    def test_modes_by_hand(self):
        above, left, corner = [10, 20, 30, 40], [12, 8, 4, 0], 16
        expected = [
            [[16] * 4] * 4,
            [above] * 4,
            [[12] * 4, [8] * 4, [4] * 4, [0] * 4],
        ]
        for mode, area in enumerate(expected):
            self.assertEqual(predict_area(above, left, corner, mode, top=255), area)
        self.assertEqual(predict_area(above, left, corner, 5, top=255), [
            [6, 16, 26, 36], [2, 12, 22, 32], [0, 8, 18, 28], [0, 4, 14, 24],
        ])
        self.assertEqual(predict_area(above, left, corner, 6, top=255), [
            [14, 14, 20, 30], [12, 14, 14, 20], [8, 12, 14, 14], [4, 8, 12, 14],
        ])
        self.assertEqual(predict_area(above, left, corner, 7, top=255), [
            [20, 30, 38, 40], [30, 38, 40, 40], [38, 40, 40, 40], [40, 40, 40, 40],
        ])
        # Mode 3 at two corners: (3 * 10 + 1 * 0 + 3 * 12 + 1 * 40 + 4) >> 3 and (4 * 0 + 4 * 40 + 4) >> 3.
        smooth = predict_area(above, left, corner, 3, top=255)
        self.assertEqual((smooth[0][0], smooth[3][3]), (13, 20))

    def test_mode_4_by_hand(self):
        def nearest(side, sample, corner):
            area = predict_area([sample] * 4, [side] * 4, corner, 4, top=255)
            self.assertEqual(area, [[area[0][0]] * 4] * 4)
            return area[0][0]

        # The target is 10, equal to the sample to the left or to the one above.
        self.assertEqual(nearest(10, 20, 20), 10)
        self.assertEqual(nearest(20, 10, 20), 10)
        # The target is 22, 18 or 21, nearest to the corner.
        self.assertEqual(nearest(30, 10, 18), 18)
        self.assertEqual(nearest(10, 30, 22), 22)
        self.assertEqual(nearest(10, 31, 20), 20)
        # The target is 40, 40 and 15.
        self.assertEqual(nearest(30, 20, 10), 30)
        self.assertEqual(nearest(20, 30, 10), 30)
        self.assertEqual(nearest(0, 20, 5), 20)
        # The target is 15: left and corner have the distance 5, and left comes first.
        self.assertEqual(nearest(10, 25, 20), 10)
        self.assertEqual(nearest(30, 15, 20), 30)
        # The target is 15: above and corner have the distance 5, and above comes first.
        self.assertEqual(nearest(25, 10, 20), 10)
        self.assertEqual(nearest(15, 30, 20), 30)

    def test_mode_4_for_all_small_samples(self):
        samples = range(5)
        for side in samples:
            for sample in samples:
                for corner in samples:
                    above, left = [sample, corner, 0, 4], [side, 4, corner, 1]
                    area = predict_area(above, left, corner, 4, top=255)
                    self.assertEqual(area, plain_area(above, left, corner, 4, 255))

    def test_average_rounds(self):
        for n in (4, 8):
            for total in range(2 * n + 1):
                above = [1] * min(n, total) + [0] * max(0, n - total)
                left = [1] * max(0, total - n) + [0] * (n - max(0, total - n))
                area = predict_area(above, left, 0, 0, top=255)
                self.assertEqual(area, [[1 if total >= n else 0] * n] * n)

    def test_flat_samples(self):
        for n in (4, 8):
            for top in (255, 4095):
                for sample in (0, 1, top // 2, top):
                    for mode in range(8):
                        area = predict_area([sample] * n, [sample] * n, sample, mode, top=top)
                        self.assertEqual(area, [[sample] * n] * n)
                    self.check([sample] * n, [sample] * n, sample, top)

    def test_extreme_samples(self):
        for n in (4, 8):
            for top in (255, 511, 4095):
                for high in (0, top):
                    for wide in (0, top):
                        for corner in (0, 1, top - 1, top):
                            self.check([high] * n, [wide] * n, corner, top)
                            self.check([high, wide] * (n // 2), [wide, high] * (n // 2), corner, top)
                            self.check([high] * (n - 1) + [wide], [wide] * (n - 1) + [high], corner, top)

    def test_slopes_are_clipped(self):
        for n in (4, 8):
            for top in (255, 1023):
                self.assertEqual(predict_area([top] * n, [top] * n, 0, 5, top=top), [[top] * n] * n)
                self.assertEqual(predict_area([0] * n, [0] * n, top, 5, top=top), [[0] * n] * n)
                self.assertEqual(predict_area([top] * n, [1] * n, 0, 5, top=top), [[top] * n] * n)
                self.assertEqual(predict_area([0] * n, [1] * n, 2, 5, top=top), [[0] * n] * n)
                self.assertEqual(predict_area([0] * n, [1] * n, 1, 5, top=top), [[0] * n] * n)
                self.assertEqual(predict_area([top] * n, [1] * n, 1, 5, top=top), [[top] * n] * n)

    def test_random_samples(self):
        chance = random.Random(41)
        for n in (4, 8):
            for top in (255, 511, 1023, 2047, 4095):
                for _ in range(40):
                    above = [chance.randint(0, top) for _ in range(n)]
                    left = [chance.randint(0, top) for _ in range(n)]
                    self.check(above, left, chance.randint(0, top), top)
                    near = chance.randint(2, top - 2)
                    above = [near + chance.randint(-2, 2) for _ in range(n)]
                    left = [near + chance.randint(-2, 2) for _ in range(n)]
                    self.check(above, left, near + chance.randint(-2, 2), top)

    def test_ramps(self):
        for n in (4, 8):
            self.check(list(range(10, 10 + n)), list(range(20, 20 + n)), 15, 255)
            self.check(list(range(40, 40 - n, -1)), list(range(0, 30 * n, 30)), 200, 255)
            self.check([3 * k * k for k in range(n)], [5 * k for k in range(n)], 0, 255)

    def test_modes_that_are_none(self):
        for n in (4, 8):
            for mode in (-8, -1, 8, 9, 100):
                with self.assertRaises(OutOfRange):
                    predict_area([1] * n, [2] * n, 3, mode, top=255)

    def test_results_are_new_lists(self):
        above, left = [1, 2, 3, 4], [5, 6, 7, 8]
        for mode in range(8):
            area = predict_area(above, left, 9, mode, top=255)
            for row in area:
                row[0] = 99
                row.append(98)
            area.clear()
            self.assertEqual((above, left), ([1, 2, 3, 4], [5, 6, 7, 8]))


if __name__ == "__main__":
    unittest.main()
