"""Points 47 to 49: rebuilding of the samples of a slice."""

import copy
import random
import unittest

from tests.plain_planes import flat_planes, random_planes, side_of
from tests.plain_rebuild import plain_rebuild
from tests.plain_syntax import KINDS, SHAPES, random_data, random_levels, zeros
from tests.plain_transform import plain_residue
from thaumatrope.errors import OutOfRange
from thaumatrope.frames import Format
from thaumatrope.headers import PictureHeader, Settings
from thaumatrope.rebuild import rebuild_slice, residue_of


def header_of(settings, kind, level=0, **more):
    return PictureHeader(settings, number=3, kind=kind[0], refs=KINDS[kind], level=level, **more)


class Residue(unittest.TestCase):
    def test_by_hand(self):
        # A first level alone is the mean: the step of level 4 is 9.
        self.assertEqual(residue_of([3] + [0] * 15, 4), [[27] * 4] * 4)
        self.assertEqual(residue_of([-2] + [0] * 63, 31), [[-544] * 8] * 8)
        self.assertEqual(residue_of([0] * 64, 31), [[0] * 8] * 8)
        # The second level belongs to row 0 and column 1, the third one to row 1 and column 0.
        # inverse of 0, 8, 0, 0: b = 0 - 64 // 32 = -2, a = 8 + -8 // 32 = 7, b = -2 - 58 // 32 = -3;
        # (0, 7) -> 4, -3 and (0, -3) -> -1, 2.
        self.assertEqual(residue_of([0, 8] + [0] * 14, 0), [[4, -1, 2, -3]] * 4)
        self.assertEqual(residue_of([0, 0, 8] + [0] * 13, 0), [[4] * 4, [-1] * 4, [2] * 4, [-3] * 4])

    def test_each_level_of_quantization(self):
        chance = random.Random(47)
        for quantizer in range(32):
            for count in (16, 64):
                for share in (0, 5, 60, 100):
                    levels = random_levels(chance, count, share)
                    before = list(levels)
                    found = residue_of(levels, quantizer)
                    self.assertEqual(found, plain_residue(levels, quantizer))
                    self.assertEqual(levels, before)
                    self.assertEqual(len({id(row) for row in found}), len(found))

    def test_other_numbers_of_levels(self):
        for count in (0, 1, 4, 8, 15, 17, 32, 63, 65, 128):
            for level in (0, 1):
                with self.assertRaises(OutOfRange):
                    residue_of([level] * count, 3)

    def test_other_levels_of_quantization(self):
        for count in (16, 64):
            for level in (0, 1):
                for quantizer in (-100, -1, 32, 33):
                    with self.assertRaises(OutOfRange):
                        residue_of([level] * count, quantizer)


class Rebuilding(unittest.TestCase):
    def rebuilt(self, settings, header, index, data, planes, references=()):
        """The planes after a slice was rebuilt in them, with a look at the other arguments."""
        references = list(references)
        before = copy.deepcopy((data, references))
        result = copy.deepcopy(planes)
        rows = [id(row) for plane in references for part in plane for row in part]
        self.assertIsNone(rebuild_slice(settings, header, index, data, result, references))
        self.assertEqual((data, references), before)
        lists = [id(row) for part in result for row in part]
        self.assertEqual(len(set(lists + rows)), len(lists) + len(set(rows)))
        return result

    def check(self, settings, header, index, data, planes, references=()):
        found = self.rebuilt(settings, header, index, data, planes, references)
        self.assertEqual(found, plain_rebuild(settings, header, index, data, planes, list(references)))
        # Samples outside of the slice do not change.
        first = index * settings.rows
        end = min((settings.fmt.height + 7) // 8, first + settings.rows)
        for plane, (old, new) in enumerate(zip(planes, found)):
            e = side_of(settings.fmt, plane)
            self.assertEqual(old[:first * e] + old[end * e:], new[:first * e] + new[end * e:])
            self.assertEqual((len(new), {len(row) for row in new}), (len(old), {len(row) for row in old}))
        return found


class Intra(Rebuilding):
    def test_one_block_by_hand(self):
        for chroma, depth in ((0, 8), (1, 9), (2, 12)):
            settings = Settings(Format(8, 8, chroma=chroma, depth=depth))
            middle = 2 ** (depth - 1)
            levels = zeros(chroma, 8)
            for plane, part in enumerate(levels):
                part[0][0] = plane + 1
            for mode in range(8):
                data = 0, [None] * len(levels), [("intra", [mode], 0, levels)]
                found = self.check(settings, header_of(settings, "I"), 0, data, flat_planes(settings.fmt, 7))
                expected = flat_planes(settings.fmt, 0)
                for plane, rows in enumerate(expected):
                    expected[plane] = [[middle + plane + 1] * len(row) for row in rows]
                self.assertEqual(found, expected)

    def test_areas_are_predicted_from_those_before_them(self):
        settings = Settings(Format(8, 8))
        header = header_of(settings, "I")
        levels = [[[k] + [0] * 15 for k in (1, 10, 100, -100)]]
        # Without neighbours: 128 + 1. To its right, horizontal: 129 + 10. Below, vertical: 129 + 100, and then
        # horizontal from 229 or vertical from 139, less 100.
        for last, value in ((2, 129), (1, 39)):
            data = 0, [None], [("intra", [0, 2, 1, last], 0, levels)]
            found = self.check(settings, header, 0, data, flat_planes(settings.fmt, 0))
            self.assertEqual(found, [[[129] * 4 + [139] * 4] * 4 + [[229] * 4 + [value] * 4] * 4])

    def test_blocks_are_predicted_from_those_before_them(self):
        settings = Settings(Format(16, 16), rows=2)
        header = header_of(settings, "I")
        blocks = [("intra", [mode], 0, [[[level] + [0] * 63]]) for mode, level in ((0, 1), (2, 2), (1, 4), (1, 8))]
        found = self.check(settings, header, 0, (0, [None], blocks), flat_planes(settings.fmt, 0))
        self.assertEqual(found, [[[129] * 8 + [131] * 8] * 8 + [[133] * 8 + [139] * 8] * 8])

    def test_chroma_of_four_modes(self):
        # Chroma planes of kind 1 have one area, those of kind 2 have four, all with chroma_mode.
        for chroma in (1, 2):
            settings = Settings(Format(16, 8, chroma=chroma))
            header = header_of(settings, "I")
            chance = random.Random(48)
            for chroma_mode in range(4):
                blocks = []
                for _ in range(2):
                    levels = zeros(chroma, 4)
                    for plane in levels:
                        for part in plane:
                            part[:3] = [chance.randint(-30, 30) for _ in range(3)]
                    blocks.append(("intra", [7, 6, 5, 4], chroma_mode, levels))
                found = self.check(settings, header, 0, (0, [None] * 3, blocks), flat_planes(settings.fmt, 9))
                self.assertNotEqual(found[1], found[2])

    def test_each_mode_in_a_row_of_blocks(self):
        chance = random.Random(49)
        for chroma in (0, 1, 2):
            for depth in (8, 12):
                settings = Settings(Format(24, 16, chroma=chroma, depth=depth), rows=2)
                header = header_of(settings, "I", level=6)
                for mode in range(8):
                    blocks = []
                    for number in range(6):
                        levels = zeros(chroma, 8 if number % 2 else 4)
                        for plane in levels:
                            for part in plane:
                                part[:] = [chance.choice((0, chance.randint(-3, 3))) for _ in part]
                        modes = [mode] * (1 if number % 2 else 4)
                        blocks.append(("intra", modes, mode % 4 if chroma else 0, levels))
                    data = 0, [None] * len(SHAPES[chroma, 8]), blocks
                    self.check(settings, header, 0, data, random_planes(chance, settings.fmt))

    def test_sums_are_clipped(self):
        for depth in (8, 12):
            settings = Settings(Format(8, 8, depth=depth, chroma=1))
            header = header_of(settings, "I", level=31)
            for level, value in ((524287, 2 ** depth - 1), (-524288, 0)):
                levels = [[[level] + [0] * 63], [[level] + [0] * 15], [[-level - 1] + [0] * 15]]
                data = 0, [None] * 3, [("intra", [0], 0, levels)]
                found = self.check(settings, header, 0, data, flat_planes(settings.fmt, 1))
                self.assertEqual(found[0], [[value] * 8] * 8)
                self.assertEqual(found[1], [[value] * 4] * 4)
                self.assertEqual(found[2], [[2 ** depth - 1 - value] * 4] * 4)
            # The sums reach the ends of the range, and one more.
            middle = 2 ** (depth - 1)
            header = header_of(settings, "I")
            for level, value in ((middle - 1, 2 ** depth - 1), (middle, 2 ** depth - 1), (middle - 2, 2 ** depth - 2),
                                 (-middle, 0), (-middle - 1, 0), (-middle + 1, 1)):
                levels = [[[level] + [0] * 63], [[0] * 16], [[0] * 16]]
                data = 0, [None] * 3, [("intra", [0], 0, levels)]
                found = self.check(settings, header, 0, data, flat_planes(settings.fmt, 1))
                self.assertEqual(found[0], [[value] * 8] * 8)

    def test_the_level_of_the_slice(self):
        settings = Settings(Format(8, 8, depth=12))
        cases = [(0, 0, 1), (4, 0, 9), (4, 3, 20), (4, -3, 2), (2, -9, 1), (30, 9, 272), (31, -31, 1)]
        for level, delta, step in cases:
            header = header_of(settings, "I", level=level)
            data = delta, [None], [("intra", [0], 0, [[[-2] + [0] * 63]])]
            found = self.check(settings, header, 0, data, flat_planes(settings.fmt, 0))
            self.assertEqual(found, [[[2048 - 2 * step] * 8] * 8])

    def test_nothing_above_a_slice_is_used(self):
        chance = random.Random(50)
        for chroma in (0, 1, 2):
            settings = Settings(Format(20, 40, chroma=chroma), slots=4, rows=2)
            for kind in KINDS:
                header = header_of(settings, kind)
                references = [random_planes(chance, settings.fmt) for _ in header.refs]
                for index, count in ((0, 6), (1, 6), (2, 3)):
                    data = random_data(chance, settings, header, count, 40)
                    slices = []
                    for value in (0, 255):
                        planes = flat_planes(settings.fmt, value)
                        found = self.check(settings, header, index, data, planes, references)
                        slices.append([
                            plane[2 * index * side_of(settings.fmt, k):2 * (index + 1) * side_of(settings.fmt, k)]
                            for k, plane in enumerate(found)
                        ])
                    self.assertEqual(slices[0], slices[1])

    def test_the_first_row_of_a_later_slice_by_hand(self):
        settings = Settings(Format(16, 24), rows=1)
        header = header_of(settings, "I")
        blocks = [("intra", [1], 0, zeros(0, 8)), ("intra", [1], 0, [[[5] + [0] * 63]])]
        planes = flat_planes(settings.fmt, 77)
        found = self.check(settings, header, 1, (0, [None], blocks), planes)
        self.assertEqual(found, [[[77] * 16] * 8 + [[128] * 8 + [133] * 8] * 8 + [[77] * 16] * 8])


class Inter(Rebuilding):
    def settings(self):
        for chroma, depth in ((0, 8), (1, 8), (1, 12), (2, 10)):
            for rows in (1, 2, 5):
                yield Settings(Format(20, 21, chroma=chroma, depth=depth), slots=4, rows=rows)

    def counts(self, settings):
        return {1: [3, 3, 3], 2: [6, 3], 5: [9]}[settings.rows]

    def test_a_moved_block(self):
        settings = Settings(Format(16, 8, chroma=1), slots=2)
        header = header_of(settings, "P", level=4)
        chance = random.Random(51)
        reference = random_planes(chance, settings.fmt)
        for size in (8, 4):
            blocks = [("inter", [(0, 0, (32, 0), None)], size, zeros(1, size)), ("skip",)]
            data = 0, [None] * 3, blocks
            found = self.check(settings, header, 0, data, flat_planes(settings.fmt, 0), [reference])
            # The skipped block has the motion (0, 0): above the slice there is none.
            self.assertEqual(found[0], [row[8:] + row[8:] for row in reference[0]])
            self.assertEqual(found[2], [row[4:] + row[4:] for row in reference[2]])

    def test_residue_in_its_place(self):
        settings = Settings(Format(8, 8, chroma=2), slots=2)
        header = header_of(settings, "P", level=2)
        reference = flat_planes(settings.fmt, 100)
        levels = [[[k] + [0] * 15 for k in four] for four in ((1, 2, 3, 4), (0, -1, 0, -2), (9, 0, 0, 0))]
        for motions in ([(0, 0, (5, 6), None)], [(0, 0, (k, -k), None) for k in range(4)]):
            data = 0, [None] * 3, [("inter", motions, 4, levels)]
            found = self.check(settings, header, 0, data, flat_planes(settings.fmt, 0), [reference])
            self.assertEqual(found, [
                [[104] * 4 + [108] * 4] * 4 + [[112] * 4 + [116] * 4] * 4,
                [[100] * 4 + [96] * 4] * 4 + [[100] * 4 + [92] * 4] * 4,
                [[136] * 4 + [100] * 4] * 4 + [[100] * 8] * 4,
            ])
            levels8 = [[[k] + [0] * 63] for k in (1, -1, 50)]
            data = 0, [None] * 3, [("inter", motions, 8, levels8)]
            found = self.check(settings, header, 0, data, flat_planes(settings.fmt, 0), [reference])
            self.assertEqual(found, [[[value] * 8] * 8 for value in (104, 96, 255)])

    def test_skipped_blocks_move_like_their_neighbours(self):
        chance = random.Random(52)
        for kind, motion in (("P", (0, 0, (7, -9), None)), ("PP", (0, 1, (7, -9), None)),
                             ("B", (2, 0, (7, -9), (-5, 30))), ("B", (0, 0, (7, -9), None)),
                             ("B", (1, 0, None, (6, 6)))):
            settings = Settings(Format(16, 16, chroma=1), slots=4, rows=2)
            header = header_of(settings, kind)
            references = [random_planes(chance, settings.fmt) for _ in header.refs]
            moved = ("inter", [motion], 8, zeros(1, 8))
            _, _, first, second = motion
            # Skipped blocks use the entry 0 in "P" pictures, and both entries in "B" pictures.
            if kind == "B":
                like = ("inter", [(2, 0, first or (0, 0), second or (0, 0))], 8, zeros(1, 8))
            else:
                like = ("inter", [(0, 0, first, None)], 8, zeros(1, 8))
            results = []
            for last in (("skip",), like):
                data = 0, [None] * 3, [moved] * 3 + [last]
                results.append(self.check(settings, header, 0, data, flat_planes(settings.fmt, 0), references))
            self.assertEqual(results[0], results[1])

    def test_random_data(self):
        chance = random.Random(53)
        for settings in self.settings():
            for kind in KINDS:
                header = header_of(settings, kind, level=chance.randrange(32))
                references = [random_planes(chance, settings.fmt) for _ in header.refs]
                for index, count in enumerate(self.counts(settings)):
                    data = random_data(chance, settings, header, count, chance.choice((9, 200, 1023)))
                    self.check(settings, header, index, data, random_planes(chance, settings.fmt), references)

    def test_weights(self):
        chance = random.Random(54)
        settings = Settings(Format(16, 8, chroma=1), slots=4)
        for weight in (0, 3, 16):
            header = header_of(settings, "B", weight=weight)
            references = [random_planes(chance, settings.fmt) for _ in header.refs]
            blocks = [("inter", [(2, 0, (3, 4), (-6, 1))], 8, zeros(1, 8)), ("skip",)]
            self.check(settings, header, 0, (0, [None] * 3, blocks), flat_planes(settings.fmt, 0), references)

    def test_slices_of_one_picture(self):
        # All slices together write each sample once, whatever their order.
        chance = random.Random(55)
        settings = Settings(Format(20, 40, chroma=1), slots=4, rows=2)
        header = header_of(settings, "B", level=3)
        references = [random_planes(chance, settings.fmt) for _ in header.refs]
        slices = [random_data(chance, settings, header, count, 60) for count in (6, 6, 3)]
        results = []
        for order in ((0, 1, 2), (2, 0, 1)):
            planes = flat_planes(settings.fmt, -1)
            for index in order:
                planes = self.rebuilt(settings, header, index, slices[index], planes, references)
            results.append(planes)
        self.assertEqual(results[0], results[1])
        self.assertFalse([row for plane in results[0] for row in plane if min(row) < 0 or max(row) > 255])


if __name__ == "__main__":
    unittest.main()
