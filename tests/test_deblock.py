"""Points 50 and 51: the deblocking filter."""

import copy
import itertools
import random
import unittest

from tests.plain_filters import plain_deblock, plain_limit, plain_smooth
from tests.plain_planes import side_of
from thaumatrope.deblock import deblock, edge_limit, smooth_edge
from thaumatrope.errors import OutOfRange
from thaumatrope.frames import Format
from thaumatrope.headers import PictureHeader, Settings


def header_of(fmt, edge=0):
    return PictureHeader(Settings(fmt, deblock=True), number=0, edge=edge)


class Limits(unittest.TestCase):
    def test_by_hand(self):
        self.assertEqual(edge_limit(4, 6, 0), 6)
        # The mean is 5 in each case, and its step is 12: 12 * 2 / 16, 12 * 8 / 16 and 12 * 14 / 16.
        for first, second in ((5, 5), (5, 6), (6, 5), (4, 7), (10, 0), (0, 11)):
            self.assertEqual([edge_limit(first, second, edge) for edge in (-6, 0, 6)], [1, 6, 10])
        self.assertEqual([edge_limit(31, 31, edge) for edge in (-6, 0, 6)], [34, 136, 238])
        self.assertEqual(edge_limit(1, 1, 0), 1)
        self.assertEqual(edge_limit(1, 1, -1), 0)

    def test_with_the_mean_0_the_limit_is_0(self):
        for edge in range(-6, 7):
            for first, second in ((0, 0), (0, 1), (1, 0)):
                self.assertEqual(edge_limit(first, second, edge), 0)

    def test_all_levels(self):
        for first, second in itertools.product(range(32), repeat=2):
            for edge in range(-6, 7):
                self.assertEqual(edge_limit(first, second, edge), plain_limit(first, second, edge))

    def test_means_out_of_range(self):
        for first, second in ((-1, 0), (0, -1), (-2, 1), (-50, 0), (32, 32), (31, 33), (64, 0), (0, 100)):
            for edge in (-6, 0, 6):
                with self.assertRaises(OutOfRange):
                    edge_limit(first, second, edge)
        # The sum is shifted first: these means are in the range.
        self.assertEqual(edge_limit(31, 32, 0), 136)
        self.assertEqual(edge_limit(-1, 1, 0), 0)
        self.assertEqual(edge_limit(63, 0, 0), 136)


class Edges(unittest.TestCase):
    def smooth(self, a1, a0, b0, b1, limit, top=255):
        result = smooth_edge(a1, a0, b0, b1, limit=limit, top=top)
        self.assertIsInstance(result, tuple)
        self.assertEqual(result, plain_smooth(a1, a0, b0, b1, limit, top))
        return result

    def test_by_hand(self):
        self.assertEqual(self.smooth(100, 100, 108, 108, 6), (102, 106))
        # (3 * -8 + 8 + 4) >> 3 is -2.
        self.assertEqual(self.smooth(108, 108, 100, 100, 6), (106, 102))
        # (3 * 1 + 0 - 1 + 4) >> 3 is 0, (3 * 4 - 4 + 4) >> 3 is 1, (3 * -4 + 4 + 4) >> 3 is -1.
        self.assertEqual(self.smooth(50, 50, 51, 51, 9), (50, 51))
        self.assertEqual(self.smooth(50, 50, 54, 54, 9), (51, 53))
        self.assertEqual(self.smooth(54, 54, 50, 50, 9), (53, 51))
        # (0 + 5 - 2 + 4) >> 3 is 0, (0 - 2 - 5 + 4) >> 3 is -1: the outer samples count.
        self.assertEqual(self.smooth(55, 50, 50, 52, 9), (50, 50))
        self.assertEqual(self.smooth(48, 50, 50, 55, 9), (49, 51))

    def test_differences_at_the_limit(self):
        # a1 and a0: below the limit, and at it.
        self.assertEqual(self.smooth(105, 100, 104, 104, 6), (102, 102))
        self.assertEqual(self.smooth(106, 100, 104, 104, 6), (100, 104))
        self.assertEqual(self.smooth(95, 100, 104, 104, 6), (100, 104))
        self.assertEqual(self.smooth(95, 100, 107, 107, 6), (101, 106))
        self.assertEqual(self.smooth(94, 100, 107, 107, 6), (100, 107))
        # b1 and b0.
        self.assertEqual(self.smooth(100, 100, 104, 99, 6), (102, 102))
        self.assertEqual(self.smooth(100, 100, 104, 98, 6), (100, 104))
        self.assertEqual(self.smooth(100, 100, 107, 112, 6), (101, 106))
        self.assertEqual(self.smooth(100, 100, 107, 113, 6), (100, 107))
        # a0 and b0: twice the limit.
        self.assertEqual(self.smooth(100, 100, 111, 111, 6), (103, 108))
        self.assertEqual(self.smooth(100, 100, 112, 112, 6), (100, 112))
        self.assertEqual(self.smooth(111, 111, 100, 100, 6), (108, 103))
        self.assertEqual(self.smooth(112, 112, 100, 100, 6), (112, 100))

    def test_the_change_stays_within_the_limit(self):
        # With differences just below the limits the change is at most 6 * t >> 3, so both ends are out of reach.
        for limit in range(1, 60):
            greatest = 6 * limit >> 3
            a0, b0 = 1000, 1000 + 2 * limit - 1
            found = self.smooth(a0 + limit - 1, a0, b0, b0 - limit + 1, limit, 4095)
            self.assertEqual(found, (a0 + greatest, b0 - greatest))
            least = (8 - 6 * limit) >> 3
            found = self.smooth(b0 - limit + 1, b0, a0, a0 + limit - 1, limit, 4095)
            self.assertEqual(found, (b0 + least, a0 - least))

    def test_samples_are_clipped(self):
        for top in (255, 4095):
            # The change is (0 - 5 - 5 + 4) >> 3 = -1, and (0 + 5 + 5 + 4) >> 3 = 1.
            self.assertEqual(self.smooth(0, 5, 5, 10, 6, top), (4, 6))
            self.assertEqual(self.smooth(top - 5, top, top, top, 6, top), (top - 1, top))
            self.assertEqual(self.smooth(top, top, top, top - 5, 6, top), (top, top - 1))
            self.assertEqual(self.smooth(0, 0, 0, 5, 6, top), (0, 1))
            self.assertEqual(self.smooth(5, 0, 0, 0, 6, top), (1, 0))

    def test_limit_0(self):
        for samples in itertools.product((0, 1, 128, 255), repeat=4):
            self.assertEqual(self.smooth(*samples, 0), samples[1:3])

    def test_all_small_samples(self):
        for samples in itertools.product(range(0, 8), repeat=4):
            for limit in (1, 2, 3, 7):
                self.smooth(*samples, limit, top=7)


class Planes(unittest.TestCase):
    def check(self, fmt, header, planes, blocks):
        before = copy.deepcopy((planes, blocks))
        found = deblock(fmt, header, planes, blocks)
        self.assertEqual((planes, blocks), before)
        self.assertEqual(found, plain_deblock(fmt, header, planes, blocks))
        rows = [row for plane in planes + found for row in plane]
        self.assertEqual(len({id(part) for part in rows + planes + found}), len(rows) + len(planes) + len(found))
        return found

    def near_planes(self, chance, fmt, spread):
        """Planes with small differences, near 0 or near the greatest sample in places."""
        planes = []
        for plane in range(fmt.planes):
            width, height = fmt.coded_size(plane)
            low = chance.choice((0, fmt.middle, fmt.top - spread))
            planes.append([[low + chance.randint(0, spread) for _ in range(width)] for _ in range(height)])
        return planes

    def random_blocks(self, chance, fmt, share):
        columns, rows = fmt.blocks()
        return [
            [(chance.randrange(32), chance.randrange(100) < share) for _ in range(columns)] for _ in range(rows)
        ]

    def test_random_planes(self):
        chance = random.Random(50)
        for chroma in (0, 1, 2):
            for depth in (8, 12):
                for width, height in ((8, 8), (20, 30), (33, 9), (5, 40)):
                    fmt = Format(width, height, depth=depth, chroma=chroma)
                    for edge in (-6, 0, 3, 6):
                        planes = self.near_planes(chance, fmt, chance.choice((5, 60, 200)))
                        blocks = self.random_blocks(chance, fmt, chance.choice((0, 50, 90)))
                        self.check(fmt, header_of(fmt, edge), planes, blocks)

    def test_flat_blocks_by_hand(self):
        # Blocks of 100 and 108 with the level 5: the limit is 6. Only the samples beside the edge change.
        for chroma in (0, 1, 2):
            fmt = Format(16, 8, chroma=chroma)
            sides = [side_of(fmt, plane) for plane in range(fmt.planes)]
            planes = [[[100] * e + [108] * e for _ in range(e)] for e in sides]
            expected = [[[100] * (e - 1) + [102, 106] + [108] * (e - 1)] * e for e in sides]
            for blocks in ([[(5, False), (5, False)]], [[(4, True), (6, False)]], [[(8, False), (3, True)]]):
                self.assertEqual(self.check(fmt, header_of(fmt), planes, blocks), expected)
            for blocks in ([[(5, True), (5, True)]], [[(0, False), (1, False)]], [[(0, True), (0, True)]]):
                self.assertEqual(self.check(fmt, header_of(fmt), planes, blocks), planes)
            # The same with rows in the place of columns.
            fmt = Format(8, 16, chroma=chroma)
            planes = [[[100] * e] * e + [[108] * e] * e for e in sides]
            expected = [[[100] * e] * (e - 1) + [[102] * e, [106] * e] + [[108] * e] * (e - 1) for e in sides]
            planes = [[list(row) for row in plane] for plane in planes]
            for blocks in ([[(5, False)], [(5, False)]], [[(4, True)], [(6, False)]]):
                self.assertEqual(self.check(fmt, header_of(fmt), planes, blocks), expected)
            self.assertEqual(self.check(fmt, header_of(fmt), planes, [[(5, True)], [(5, True)]]), planes)

    def test_vertical_edges_come_first(self):
        # Where four blocks meet, filtering the horizontal edges first would give other samples.
        fmt = Format(16, 16)
        chance = random.Random(52)
        differ = 0
        blocks = [[(12, False), (14, False)], [(11, False), (13, False)]]
        for _ in range(30):
            planes = self.near_planes(chance, fmt, 30)
            found = self.check(fmt, header_of(fmt), planes, blocks)
            turned = [[list(column) for column in zip(*plane)] for plane in planes]
            twins = plain_deblock(fmt, header_of(fmt), turned, [list(column) for column in zip(*blocks)])
            differ += found != [[list(column) for column in zip(*plane)] for plane in twins]
        self.assertGreater(differ, 5)

    def test_each_edge_has_its_own_limit(self):
        # The third block is skipped like the fourth, and the last has the level 0 like the one before it.
        levels = [(31, False), (9, False), (9, True), (31, True), (0, False), (0, True)]
        fmt = Format(48, 8)
        planes = [[[100 + 4 * (x // 8) for x in range(48)] for _ in range(8)]]
        found = self.check(fmt, header_of(fmt), planes, [levels])
        changed = [x // 8 for x in range(8, 48, 8) if found[0][0][x] != planes[0][0][x]]
        self.assertEqual(changed, [1, 2, 4])

    def test_the_edge_of_the_header(self):
        fmt = Format(16, 8)
        planes = [[[100] * 8 + [108] * 8 for _ in range(8)]]
        results = []
        for edge in range(-6, 7):
            found = self.check(fmt, header_of(fmt, edge), planes, [[(5, False), (5, False)]])
            results.append(found[0][0][7])
        # The limits are 1, 2, 3, 3, 4, 5, 6, ..: nothing changes until twice the limit is above 8.
        self.assertEqual(results, [100] * 5 + [102] * 8)

    def test_one_block(self):
        for chroma in (0, 1, 2):
            fmt = Format(8, 8, chroma=chroma)
            planes = self.near_planes(random.Random(3), fmt, 100)
            self.assertEqual(self.check(fmt, header_of(fmt, 6), planes, [[(31, False)]]), planes)


if __name__ == "__main__":
    unittest.main()
