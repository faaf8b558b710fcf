"""Points 31 and 32: samples between samples."""

import copy
import random
import unittest

from tests.plain_samples import plain_eighth, plain_quarter, plain_quarter_sum, sample_at
from thaumatrope.filters import eighth_area, eighth_sample, quarter_area, quarter_sample


def random_plane(chance, width, height, top):
    """A plane of samples, many of them 0 or the greatest one."""
    return [[chance.choice((0, top, chance.randint(0, top))) for _ in range(width)] for _ in range(height)]


# Widths and heights of planes.
SIZES = [(8, 8), (1, 1), (1, 5), (6, 1), (2, 3), (12, 4)]
TOPS = [255, 4095]


class Each(unittest.TestCase):
    """What holds for positions in quarters and in eighths alike."""

    def planes(self, seed):
        chance = random.Random(seed)
        for top in TOPS:
            for width, height in SIZES:
                yield random_plane(chance, width, height, top), top

    def unchanged(self, plane, before, rows):
        """Check that the rows are new, and that the plane is as it was."""
        self.assertEqual(plane, before)
        self.assertEqual(len({id(row) for row in rows + plane}), len(rows) + len(plane))
        for row in rows:
            row.append(-1)
        rows.append([])
        self.assertEqual(plane, before)

    def check_areas(self, area, sample, unit, seed):
        chance = random.Random(seed)
        for plane, top in self.planes(seed):
            before = copy.deepcopy(plane)
            for width in range(1, 9):
                for height in range(1, 9):
                    x, y = chance.randint(-60, 60), chance.randint(-60, 60)
                    if chance.randrange(4) == 0:
                        x -= x % unit
                        y -= y % unit
                    rows = area(plane, x, y, width, height, top=top)
                    self.assertEqual(rows, [
                        [sample(plane, x + unit * i, y + unit * j, top=top) for i in range(width)]
                        for j in range(height)
                    ])
                    self.unchanged(plane, before, rows)

    def check_whole_positions(self, area, sample, unit, seed):
        for plane, top in self.planes(seed):
            before = copy.deepcopy(plane)
            for j in range(-10, len(plane) + 10):
                for i in range(-10, len(plane[0]) + 10):
                    self.assertEqual(sample(plane, unit * i, unit * j, top=top), sample_at(plane, i, j))
            rows = area(plane, 0, 0, len(plane[0]), len(plane), top=top)
            self.assertEqual(rows, before)
            self.unchanged(plane, before, rows)

    def check_flat_planes(self, area, unit):
        for top in TOPS:
            for value in (0, 1, top // 2, top - 1, top):
                plane = [[value] * 5 for _ in range(4)]
                for x in range(-3 * unit, 8 * unit):
                    for y in (-1000, -3, 1, unit + 2, 9 * unit):
                        self.assertEqual(area(plane, x, y, 3, 2, top=top), [[value] * 3] * 2)


class Quarters(Each):
    def test_the_example(self):
        self.assertEqual(quarter_sample([[10, 20]], 2, 0, top=255), 15)

    def test_by_hand(self):
        plane = [[0, 0, 0, 100, 100, 100]]
        # The sums of the weights behind the third one are 16, 32 and 48 of 64.
        self.assertEqual([quarter_sample(plane, 8 + f, 0, top=255) for f in range(5)], [0, 25, 50, 75, 100])
        # One step to the left only the last two weights count, -4 and -8 and -4 of 64.
        self.assertEqual([quarter_sample(plane, 4 + f, 0, top=255) for f in range(5)], [0, 0, 0, 0, 0])
        # One step to the right all but the first two count, 68 and 72 and 68 of 64.
        self.assertEqual([quarter_sample(plane, 12 + f, 0, top=255) for f in range(5)], [100, 106, 113, 106, 100])
        column = [[sample] for sample in plane[0]]
        self.assertEqual([quarter_sample(column, 0, 12 + g, top=255) for g in range(5)], [100, 106, 113, 106, 100])
        # (64 * 64 * s + 2048) >> 12 with s = 0.5, 0.25 and 0.75: rounded up, down and up.
        self.assertEqual([quarter_sample([[0, 0, 0, 1, 1, 1]], 8 + f, 0, top=255) for f in (1, 2, 3)], [0, 1, 1])

    def test_one_sample_has_the_weights_of_the_fractions(self):
        weights = [(0, 0, 64, 0, 0, 0), (1, -5, 52, 20, -5, 1), (2, -10, 40, 40, -10, 2), (1, -5, 20, 52, -5, 1)]
        for f in range(4):
            for g in range(4):
                for s in range(6):
                    for t in range(6):
                        # All samples are 2000, and that one is 3000: the sum is 2000 * 4096 + 1000 * weights.
                        plane = [[2000] * 6 for _ in range(6)]
                        plane[t][s] = 3000
                        expected = 2000 + ((1000 * weights[f][s] * weights[g][t] + 2048) >> 12)
                        self.assertEqual(quarter_sample(plane, 8 + f, 8 + g, top=4095), expected)

    def test_every_fraction_everywhere(self):
        for plane, top in self.planes(1):
            before = copy.deepcopy(plane)
            for y in range(-14, 4 * len(plane) + 14):
                for x in range(-14, 4 * len(plane[0]) + 14):
                    self.assertEqual(quarter_sample(plane, x, y, top=top), plain_quarter(plane, x, y, top))
            self.assertEqual(plane, before)

    def test_far_outside(self):
        for plane, top in self.planes(2):
            right, bottom = 4 * len(plane[0]), 4 * len(plane)
            for x in (-5000, -1023, -13, 2, right + 13, right + 1023, 9999):
                for y in (-5000, -1022, -15, 1, bottom + 15, bottom + 1021, 9999):
                    for f in range(4):
                        found = quarter_sample(plane, x + f, y, top=top)
                        self.assertEqual(found, plain_quarter(plane, x + f, y, top))
            # There each sample is the one in the corner, or the one in the row.
            self.assertEqual(quarter_sample(plane, -5001, -5003, top=top), plane[0][0])
            self.assertEqual(quarter_sample(plane, 9999, -5003, top=top), plane[0][-1])
            self.assertEqual(quarter_sample(plane, -5001, 9997, top=top), plane[-1][0])
            self.assertEqual(quarter_sample(plane, 9999, 9998, top=top), plane[-1][-1])
            self.assertEqual(quarter_sample(plane, -5001, 4, top=top), sample_at(plane, 0, 1))

    def test_values_are_clipped(self):
        for top in TOPS:
            # Within 0, top, top and 0 the value is 80 - 16 = 68 of 64; it is -4 of 64 where the samples change places.
            for samples, expected in (([0, 0, top, top, 0, 0], top), ([top, top, 0, 0, top, top], 0)):
                across, down = [list(samples)], [[sample] for sample in samples]
                self.assertEqual(quarter_sample(across, 10, 0, top=top), expected)
                self.assertEqual(quarter_sample(down, 0, 10, top=top), expected)
            chance = random.Random(top)
            kinds = {"below": 0, "above": 0}
            for _ in range(200):
                plane = [[chance.choice((0, top)) for _ in range(6)] for _ in range(6)]
                x, y = 8 + chance.randrange(4), 8 + chance.randrange(4)
                value = (plain_quarter_sum(plane, x, y) + 2048) >> 12
                if value < 0:
                    kinds["below"] += 1
                    self.assertEqual(quarter_sample(plane, x, y, top=top), 0)
                elif value > top:
                    kinds["above"] += 1
                    self.assertEqual(quarter_sample(plane, x, y, top=top), top)
                else:
                    self.assertEqual(quarter_sample(plane, x, y, top=top), value)
            self.assertGreater(min(kinds.values()), 10)

    def test_sums_are_not_rounded_between_the_directions(self):
        # Rounding after the rows would give another value for one of these.
        chance = random.Random(7)
        differ = 0
        for _ in range(200):
            plane = [[chance.randrange(4) for _ in range(6)] for _ in range(6)]
            rows = [plain_quarter([row], 10, 0, 255) for row in plane]
            early = plain_quarter([[sample] for sample in rows], 0, 10, 255)
            found = quarter_sample(plane, 10, 10, top=255)
            self.assertEqual(found, plain_quarter(plane, 10, 10, 255))
            differ += found != early
        self.assertGreater(differ, 0)

    def test_sums_just_below_and_at_a_half(self):
        # A sum of 2047 of 4096 parts is rounded down, and one of 2048 is rounded up.
        chance = random.Random(8)
        found = {2047: 0, 2048: 0}
        while min(found.values()) == 0:
            plane = [[chance.randint(100, 150) for _ in range(6)] for _ in range(6)]
            value = plain_quarter_sum(plane, 9, 11)
            if value % 4096 in found:
                found[value % 4096] += 1
                expected = value // 4096 + (1 if value % 4096 == 2048 else 0)
                self.assertEqual(quarter_sample(plane, 9, 11, top=255), expected)

    def test_whole_positions(self):
        self.check_whole_positions(quarter_area, quarter_sample, 4, 3)

    def test_flat_planes(self):
        self.check_flat_planes(quarter_area, 4)

    def test_areas(self):
        self.check_areas(quarter_area, quarter_sample, 4, 4)

    def test_every_fraction_of_areas(self):
        chance = random.Random(5)
        plane = random_plane(chance, 10, 9, 255)
        for f in range(4):
            for g in range(4):
                for x, y in ((-16 + f, -8 + g), (4 + f, 8 + g), (24 + f, 28 + g), (-400 + f, 400 + g)):
                    self.assertEqual(quarter_area(plane, x, y, 8, 4, top=255), [
                        [plain_quarter(plane, x + 4 * i, y + 4 * j, 255) for i in range(8)] for j in range(4)
                    ])


class Eighths(Each):
    def test_by_hand(self):
        plane = [[0, 80], [160, 240]]
        self.assertEqual([eighth_sample(plane, f, 0, top=255) for f in range(9)], [10 * f for f in range(9)])
        self.assertEqual([eighth_sample(plane, 0, g, top=255) for g in range(9)], [20 * g for g in range(9)])
        self.assertEqual(eighth_sample(plane, 4, 4, top=255), 120)
        self.assertEqual(eighth_sample(plane, 3, 5, top=255), 130)
        # Of 64 parts, 31 and 32: rounded down and up.
        self.assertEqual(eighth_sample([[0, 1]], 4, 0, top=255), 1)
        self.assertEqual(eighth_sample([[0, 1]], 3, 0, top=255), 0)
        self.assertEqual(eighth_sample([[31, 0], [0, 0]], 7, 7, top=255), 0)
        self.assertEqual(eighth_sample([[32, 0], [0, 0]], 7, 7, top=255), 1)

    def test_one_sample_has_the_weights_of_the_fractions(self):
        for f in range(8):
            for g in range(8):
                weights = [(8 - f) * (8 - g), f * (8 - g), (8 - f) * g, f * g]
                for place, weight in enumerate(weights):
                    plane = [[1000, 1000], [1000, 1000]]
                    plane[place // 2][place % 2] = 3000
                    expected = 1000 + ((2000 * weight + 32) >> 6)
                    self.assertEqual(eighth_sample(plane, f, g, top=4095), expected)

    def test_every_fraction_everywhere(self):
        for plane, top in self.planes(11):
            before = copy.deepcopy(plane)
            for y in range(-18, 8 * len(plane) + 10):
                for x in range(-18, 8 * len(plane[0]) + 10):
                    self.assertEqual(eighth_sample(plane, x, y, top=top), plain_eighth(plane, x, y))
            self.assertEqual(plane, before)

    def test_far_outside(self):
        for plane, top in self.planes(12):
            right, bottom = 8 * len(plane[0]), 8 * len(plane)
            for x in (-5000, -1023, -9, 3, right + 9, right + 1023, 9999):
                for y in (-5000, -1022, -11, 5, bottom + 11, bottom + 1021, 9999):
                    self.assertEqual(eighth_sample(plane, x, y, top=top), plain_eighth(plane, x, y))
            self.assertEqual(eighth_sample(plane, -5001, -5003, top=top), plane[0][0])
            self.assertEqual(eighth_sample(plane, 9999, -5003, top=top), plane[0][-1])
            self.assertEqual(eighth_sample(plane, -5001, 9997, top=top), plane[-1][0])
            self.assertEqual(eighth_sample(plane, 9999, 9998, top=top), plane[-1][-1])

    def test_values_reach_0_and_the_greatest_sample(self):
        for top in TOPS:
            for value in (0, top):
                plane = [[value, value], [value, value]]
                for f in range(8):
                    for g in range(8):
                        self.assertEqual(eighth_sample(plane, f, g, top=top), value)

    def test_whole_positions(self):
        self.check_whole_positions(eighth_area, eighth_sample, 8, 13)

    def test_flat_planes(self):
        self.check_flat_planes(eighth_area, 8)

    def test_areas(self):
        self.check_areas(eighth_area, eighth_sample, 8, 14)

    def test_every_fraction_of_areas(self):
        chance = random.Random(15)
        plane = random_plane(chance, 7, 9, 4095)
        for f in range(8):
            for g in range(8):
                for x, y in ((-16 + f, -8 + g), (8 + f, 16 + g), (40 + f, 56 + g), (-400 + f, 400 + g)):
                    self.assertEqual(eighth_area(plane, x, y, 4, 2, top=4095), [
                        [plain_eighth(plane, x + 8 * i, y + 8 * j) for i in range(4)] for j in range(2)
                    ])


if __name__ == "__main__":
    unittest.main()
