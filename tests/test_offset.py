"""Point 52: the offset filter."""

import copy
import itertools
import random
import unittest

from tests.plain_filters import NEIGHBOURS, plain_offsets
from tests.plain_planes import random_planes, side_of
from tests.plain_syntax import random_offsets
from thaumatrope.frames import Format
from thaumatrope.headers import Settings
from thaumatrope.offset import apply_offsets


class Offsets(unittest.TestCase):
    def check(self, settings, planes, offsets):
        before = copy.deepcopy((planes, offsets))
        found = apply_offsets(settings, planes, offsets)
        self.assertEqual((planes, offsets), before)
        self.assertEqual(found, plain_offsets(settings, planes, offsets))
        rows = [row for plane in planes + found for row in plane]
        self.assertEqual(len({id(part) for part in rows + planes + found}), len(rows) + len(planes) + len(found))
        return found

    def settings_of(self, width=8, height=8, rows=1, **more):
        return Settings(Format(width, height, **more), rows=rows, offset=True)

    def test_each_class_by_hand(self):
        settings = self.settings_of()
        values = [1, 20, 300 // 50, -4]
        cases = [
            # The neighbours of a sample of 100; what is added.
            ((101, 101), 1), ((255, 110), 1), ((100, 101), 20), ((101, 100), 20), ((100, 100), 0), ((99, 101), 0),
            ((101, 99), 0), ((100, 99), 6), ((99, 100), 6), ((99, 99), -4), ((0, 50), -4),
        ]
        for direction, places in NEIGHBOURS.items():
            for neighbours, more in cases:
                plane = [[100] * 8 for _ in range(8)]
                for (right, down), sample in zip(places, neighbours):
                    plane[3 + down][4 + right] = sample
                found = self.check(settings, [plane], [[(direction, values)]])
                self.assertEqual(found[0][3][4], 100 + more)

    def test_values_from_minus_7_to_7(self):
        settings = self.settings_of()
        plane = [[100, 100, 50, 100, 150, 100, 100, 100] for _ in range(8)]
        # To the left and right: of 100 at column 1 one neighbour is less, 50 has two greater ones, 100 at column 3 has
        # one of each, 150 two lesser ones, and 100 at column 5 one greater one.
        found = self.check(settings, [plane], [[(0, [-7, 7, -6, 5])]])
        self.assertEqual(found, [[[100, 94, 43, 100, 155, 107, 100, 100]] * 8])

    def test_edges_and_corners_of_the_plane(self):
        for chroma in (0, 1, 2):
            settings = self.settings_of(12, 20, rows=3, chroma=chroma)
            # Every sample is greater than its neighbours, or less: only those without two neighbours stay.
            planes = []
            for number in range(settings.fmt.planes):
                width, height = settings.fmt.coded_size(number)
                planes.append([[100 + 50 * ((x + y) % 2) for x in range(width)] for y in range(height)])
            for direction in (0, 1):
                found = self.check(settings, planes, [[(direction, [1, 0, 0, -1])] * settings.fmt.planes])
                for old, new in zip(planes, found):
                    for y, x in itertools.product(range(len(old)), range(len(old[0]))):
                        place, last = (x, len(old[0]) - 1) if direction == 0 else (y, len(old) - 1)
                        stays = place in (0, last)
                        self.assertEqual(new[y][x] == old[y][x], stays)
            for planes in ([[[100 + 50 * (y % 2)] * len(row) for y, row in enumerate(plane)] for plane in planes],):
                for direction in (2, 3):
                    found = self.check(settings, planes, [[(direction, [1, 0, 0, -1])] * settings.fmt.planes])
                    for old, new in zip(planes, found):
                        for y, x in itertools.product(range(len(old)), range(len(old[0]))):
                            stays = x in (0, len(old[0]) - 1) or y in (0, len(old) - 1)
                            self.assertEqual(new[y][x] == old[y][x], stays)

    def test_edges_of_a_slice(self):
        # The neighbours in other slices count as they were before the filter, also if their slices change.
        chance = random.Random(52)
        for chroma in (0, 1, 2):
            settings = self.settings_of(12, 40, rows=2, chroma=chroma)
            planes = random_planes(chance, settings.fmt)
            for directions in itertools.product(range(4), repeat=3):
                offsets = [[(direction, [7, 6, -5, -4])] * settings.fmt.planes for direction in directions]
                found = self.check(settings, planes, offsets)
                # Each slice alone gives the same rows, and changes no others.
                for index in range(3):
                    alone = self.check(settings, planes, [items if k == index else None
                                                          for k, items in enumerate(offsets)])
                    for number, plane in enumerate(alone):
                        e = side_of(settings.fmt, number)
                        first, end = 2 * index * e, min(len(plane), 2 * (index + 1) * e)
                        self.assertEqual(plane[first:end], found[number][first:end])
                        self.assertEqual(plane[:first], planes[number][:first])
                        self.assertEqual(plane[end:], planes[number][end:])

    def test_neighbours_in_the_slice_above_by_hand(self):
        # Row 7 belongs to slice 0, and row 8 to slice 1; both samples have one neighbour that differs.
        settings = self.settings_of(8, 16)
        plane = [[100] * 8 for _ in range(8)] + [[101] * 8 for _ in range(8)]
        found = self.check(settings, [plane], [[(1, [0, 1, 5, 0])], [(1, [0, 1, -5, 0])]])
        self.assertEqual(found, [[[100] * 8] * 7 + [[101] * 8, [96] * 8] + [[101] * 8] * 7])

    def test_depths(self):
        for depth in range(8, 13):
            settings = self.settings_of(depth=depth)
            middle = 2 ** (depth - 1)
            plane = [[middle] * 3 + [middle + 1] + [middle] * 4 for _ in range(8)]
            found = self.check(settings, [plane], [[(0, [1, 3, 5, -7])]])
            unit = 2 ** (depth - 8)
            row = [middle] * 2 + [middle + 3 * unit, middle + 1 - 7 * unit, middle + 3 * unit] + [middle] * 3
            self.assertEqual(found, [[row] * 8])

    def test_sums_are_clipped(self):
        for depth in (8, 12):
            settings = self.settings_of(depth=depth)
            top = 2 ** depth - 1
            for low, high in ((0, 1), (2, 5), (top - 1, top), (top - 6, top - 3)):
                plane = [[low, high] * 4 for _ in range(8)]
                for values, first, second in (([-7, 0, 0, 7], max(0, low - 7 * 2 ** (depth - 8)),
                                               min(top, high + 7 * 2 ** (depth - 8))),
                                              ([7, 0, 0, -7], min(top, low + 7 * 2 ** (depth - 8)),
                                               max(0, high - 7 * 2 ** (depth - 8)))):
                    found = self.check(settings, [plane], [[(0, values)]])
                    self.assertEqual(found[0], [[low] + [second, first] * 3 + [high]] * 8)

    def test_items_that_are_none(self):
        chance = random.Random(53)
        settings = self.settings_of(20, 24, chroma=1)
        planes = random_planes(chance, settings.fmt)
        self.assertEqual(self.check(settings, planes, [None, None, None]), planes)
        self.assertEqual(self.check(settings, planes, [[None] * 3] * 3), planes)
        item = (2, [7, 7, -7, -7])
        for number in range(3):
            items = [None] * 3
            items[number] = item
            found = self.check(settings, planes, [None, items, [None] * 3])
            for other in range(3):
                self.assertEqual(found[other] == planes[other], other != number)

    def test_random_offsets(self):
        chance = random.Random(54)
        for chroma in (0, 1, 2):
            for depth in (8, 10, 12):
                for width, height, rows in ((8, 8, 1), (20, 30, 1), (33, 9, 2), (5, 40, 3), (1, 1, 32)):
                    settings = self.settings_of(width, height, rows, chroma=chroma, depth=depth)
                    for _ in range(3):
                        planes = random_planes(chance, settings.fmt)
                        if chance.randrange(2):
                            planes = [[[sample % 3 for sample in row] for row in plane] for plane in planes]
                        offsets = [chance.choice([None, random_offsets(chance, settings)])
                                   for _ in range(settings.slices())]
                        self.check(settings, planes, offsets)

    def test_flat_planes(self):
        settings = self.settings_of(16, 16, chroma=2)
        planes = [[[9] * 16 for _ in range(16)] for _ in range(3)]
        for direction in range(4):
            self.assertEqual(self.check(settings, planes, [[(direction, [7, -7, 7, -7])] * 3] * 2), planes)


if __name__ == "__main__":
    unittest.main()
