"""Points 33 and 34: prediction from reference pictures."""

import copy
import itertools
import random
import unittest

from tests.plain_motion import random_motion
from tests.plain_planes import flat_planes, random_planes
from tests.plain_samples import plain_block, plain_motion_sample
from thaumatrope.frames import Format
from thaumatrope.headers import PictureHeader, Settings
from thaumatrope.inter import predict_block, predict_motion

LONGEST = [(x, y) for x in (-1023, 0, 1023) for y in (-1023, 1, 1023)]


def header_of(fmt, kind, **more):
    settings = Settings(fmt, slots=4)
    refs = {"P": [1], "PP": [3, 0], "B": [2, 1]}[kind]
    return PictureHeader(settings, number=5, kind=kind[0], refs=refs, **more)


class Inter(unittest.TestCase):
    def formats(self):
        for chroma in (0, 1, 2):
            for depth in (8, 12):
                yield Format(20, 12, depth=depth, chroma=chroma)

    def references(self, fmt, header, seed):
        chance = random.Random(seed)
        return [random_planes(chance, fmt) for _ in header.refs]

    def area(self, fmt, header, motion, references, plane, x, y, width, height):
        """The predicted area, after a look at the arguments and at the rows."""
        before = copy.deepcopy(references)
        rows = predict_motion(fmt, header, motion, references, plane, x, y, width, height)
        self.assertEqual(references, before)
        kept = copy.deepcopy(rows)
        owned = {id(row) for reference in references for part in reference for row in part}
        self.assertEqual(len({id(row) for row in rows} | owned), len(rows) + len(owned))
        rows[0][0] = -5
        rows.clear()
        self.assertEqual(references, before)
        return kept

    def check(self, fmt, header, motion, references, plane, x, y, width, height):
        found = self.area(fmt, header, motion, references, plane, x, y, width, height)
        self.assertEqual(found, [
            [plain_motion_sample(fmt, header, motion, references, plane, x + i, y + j) for i in range(width)]
            for j in range(height)
        ], msg=f"{fmt.text()} {header.kind} {motion} {plane} {x} {y}")


class Areas(Inter):
    def test_whole_vectors_move_samples(self):
        fmt = Format(16, 16, chroma=1)
        header = header_of(fmt, "P")
        references = self.references(fmt, header, 1)
        luma, chroma, _ = references[0]
        rows = self.area(fmt, header, (0, 0, (8, -4), None), references, 0, 4, 8, 4, 4)
        self.assertEqual(rows, [row[6:10] for row in luma[7:11]])
        # A luma sample is half a chroma sample: 8 quarters of it are one chroma sample.
        rows = self.area(fmt, header, (0, 0, (8, -16), None), references, 1, 2, 4, 4, 4)
        self.assertEqual(rows, [row[3:7] for row in chroma[2:6]])
        half = self.area(fmt, header, (0, 0, (4, 0), None), references, 1, 2, 4, 1, 1)
        self.assertEqual(half, [[(chroma[4][2] + chroma[4][3] + 1) >> 1]])
        fmt = Format(16, 16, chroma=2)
        references = self.references(fmt, header, 2)
        rows = self.area(fmt, header, (0, 0, (8, -4), None), references, 2, 4, 8, 4, 4)
        self.assertEqual(rows, [row[6:10] for row in references[0][2][7:11]])

    def test_each_direction_in_each_plane(self):
        chance = random.Random(33)
        for fmt in self.formats():
            for kind in ("P", "PP", "B"):
                header = header_of(fmt, kind, weight=5) if kind == "B" else header_of(fmt, kind)
                references = self.references(fmt, header, 3)
                for _ in range(12):
                    motion = random_motion(chance, header, chance.choice((3, 40, 1023)))
                    for plane in range(fmt.planes):
                        self.check(fmt, header, motion, references, plane, 4, 0, 4, 3)

    def test_entries_of_refs(self):
        for fmt in self.formats():
            flat = [flat_planes(fmt, 10), flat_planes(fmt, 20)]
            for plane in range(fmt.planes):
                two = header_of(fmt, "PP")
                both = header_of(fmt, "B")
                cases = [
                    (header_of(fmt, "P"), (0, 0, (1, 2), None), flat[:1], 10),
                    (two, (0, 0, (1, 2), None), flat, 10), (two, (0, 1, (1, 2), None), flat, 20),
                    (both, (0, 0, (1, 2), None), flat, 10), (both, (1, 0, None, (1, 2)), flat, 20),
                    (both, (2, 0, (1, 2), (3, 4)), flat, 15),
                ]
                for header, motion, references, value in cases:
                    found = self.area(fmt, header, motion, references, plane, 0, 0, 4, 2)
                    self.assertEqual(found, [[value] * 4] * 2)

    def test_both_entries_may_be_one_picture(self):
        fmt = Format(16, 16, chroma=1)
        header = PictureHeader(Settings(fmt, slots=2), number=0, kind="B", refs=[1, 1], weight=3)
        planes = random_planes(random.Random(4), fmt)
        for plane in range(3):
            for motion in ((2, 0, (9, -3), (-20, 14)), (2, 0, (5, 5), (5, 5)), (1, 0, None, (7, 6))):
                self.check(fmt, header, motion, [planes, planes], plane, 4, 4, 4, 4)

    def test_each_weight(self):
        for fmt in self.formats():
            for weight in range(17):
                header = header_of(fmt, "B", weight=weight)
                references = self.references(fmt, header, weight)
                for plane in range(fmt.planes):
                    for motion in ((2, 0, (3, -6), (-17, 2)), (2, 0, (0, 0), (0, 0))):
                        self.check(fmt, header, motion, references, plane, 2, 3, 4, 2)
                # The weight counts for direction 2 only.
                for motion in ((0, 0, (3, -6), None), (1, 0, None, (3, -6))):
                    self.check(fmt, header, motion, references, 0, 2, 3, 2, 2)

    def test_weights_by_hand(self):
        fmt = Format(8, 8, depth=12)
        references = [flat_planes(fmt, 0), flat_planes(fmt, 4095)]
        for weight, value in ((0, 0), (1, 256), (8, 2048), (15, 3839), (16, 4095)):
            header = header_of(fmt, "B", weight=weight)
            found = self.area(fmt, header, (2, 0, (0, 0), (0, 0)), references, 0, 0, 0, 1, 1)
            self.assertEqual(found, [[value]])
        references.reverse()
        for weight, value in ((0, 4095), (1, 3839), (8, 2048), (15, 256), (16, 0)):
            header = header_of(fmt, "B", weight=weight)
            found = self.area(fmt, header, (2, 0, (0, 0), (0, 0)), references, 0, 0, 0, 1, 1)
            self.assertEqual(found, [[value]])

    def test_edges_of_the_coded_size(self):
        for fmt in self.formats():
            header = header_of(fmt, "B", weight=11)
            references = self.references(fmt, header, 5)
            for plane in range(fmt.planes):
                width, height = fmt.coded_size(plane)
                for x, y in itertools.product((0, width - 4), (0, height - 4)):
                    for motion in ((0, 0, (-7, -9), None), (1, 0, None, (13, 6)), (2, 0, (21, -1), (-1, 30))):
                        self.check(fmt, header, motion, references, plane, x, y, 4, 4)

    def test_the_longest_vectors(self):
        for fmt in self.formats():
            header = header_of(fmt, "B", weight=7)
            references = self.references(fmt, header, 6)
            for plane in range(fmt.planes):
                for first, second in zip(LONGEST, reversed(LONGEST)):
                    for motion in ((0, 0, first, None), (1, 0, None, second), (2, 0, first, second)):
                        self.check(fmt, header, motion, references, plane, 4, 4, 2, 2)

    def test_widths_and_heights(self):
        fmt = Format(24, 16, chroma=1)
        header = header_of(fmt, "P")
        references = self.references(fmt, header, 7)
        for plane in (0, 1):
            for width in range(1, 9):
                for height in (1, 2, 4, 8):
                    self.check(fmt, header, (0, 0, (5, -3), None), references, plane, 3, 2, width, height)


class Blocks(Inter):
    def check_block(self, fmt, header, motions, references, column, row):
        before = copy.deepcopy((motions, references))
        predicted = predict_block(fmt, header, motions, references, column, row)
        self.assertEqual(predicted, plain_block(fmt, header, motions, references, column, row))
        owned = [part for reference in references for part in reference] + references
        owned += [line for reference in references for part in reference for line in part]
        new = [predicted] + predicted + [line for rows in predicted for line in rows]
        self.assertEqual(len({id(part) for part in new + owned}), len(new) + len(owned))
        for line in new[::-1]:
            line.append(0)
        self.assertEqual((motions, references), before)

    def test_each_block(self):
        chance = random.Random(34)
        for fmt in self.formats():
            columns, rows = fmt.blocks()
            self.assertEqual((columns, rows), (3, 2))
            for kind in ("PP", "B"):
                header = header_of(fmt, kind)
                references = self.references(fmt, header, 8)
                for column in range(columns):
                    for row in range(rows):
                        for count in (1, 4):
                            motions = [random_motion(chance, header, chance.choice((9, 99))) for _ in range(count)]
                            self.check_block(fmt, header, motions, references, column, row)

    def test_the_last_block_of_a_large_picture(self):
        fmt = Format(250, 251, chroma=1)
        header = header_of(fmt, "P")
        references = self.references(fmt, header, 9)
        for column, row in ((0, 0), (31, 0), (0, 31), (31, 31)):
            self.check_block(fmt, header, [(0, 0, (1023, -1023), None)], references, column, row)
            four = [(0, 0, vector, None) for vector in ((-1023, 5), (6, 7), (-3, 1023), (1, 1))]
            self.check_block(fmt, header, four, references, column, row)

    def test_sizes(self):
        for fmt in self.formats():
            header = header_of(fmt, "P")
            references = self.references(fmt, header, 10)
            for count in (1, 4):
                predicted = predict_block(fmt, header, [(0, 0, (1, 1), None)] * count, references, 1, 1)
                sizes = [(len(rows), {len(row) for row in rows}) for rows in predicted]
                expected = [(8, {8})] + [(4, {4}) if fmt.chroma == 1 else (8, {8})] * (fmt.planes - 1)
                self.assertEqual(sizes, expected)

    def test_quarters_in_their_order(self):
        # Each quarter has a motion to another flat part of the reference picture.
        fmt = Format(64, 64, chroma=1)
        header = header_of(fmt, "P")
        reference = [
            [[2 * (x * 64 // len(part[0]) // 16) + 20 * (y * 64 // len(part) // 16) for x in range(len(part[0]))]
             for y in range(len(part))]
            for part in flat_planes(fmt, 0)
        ]
        # The block covers 32 to 39 in both directions; 64 quarters are 16 samples.
        motions = [(0, 0, vector, None) for vector in ((-64, 0), (0, -64), (64, 0), (0, 64))]
        luma, first, second = predict_block(fmt, header, motions, [reference], 4, 4)
        self.assertEqual(luma, [[42] * 4 + [24] * 4] * 4 + [[46] * 4 + [64] * 4] * 4)
        self.assertEqual(first, [[42] * 2 + [24] * 2] * 2 + [[46] * 2 + [64] * 2] * 2)
        self.assertEqual(second, first)

    def test_four_equal_motions_are_like_one(self):
        for fmt in self.formats():
            header = header_of(fmt, "B", weight=13)
            references = self.references(fmt, header, 11)
            motion = (2, 0, (17, -6), (-3, 22))
            one = predict_block(fmt, header, [motion], references, 1, 0)
            self.assertEqual(predict_block(fmt, header, [motion] * 4, references, 1, 0), one)


if __name__ == "__main__":
    unittest.main()
