"""Points 43 to 46: the code of a slice."""

import copy
import random
import unittest
from unittest import mock

from tests.plain_symbols import Listing, plain_choice, plain_flag, plain_signed
from tests.plain_syntax import KINDS, SHAPES, plain_levels, plain_slice, random_data, zeros
from thaumatrope import syntax
from thaumatrope.coder import Encoder
from thaumatrope.contexts import (
    CHROMA, CODED, DIRECTION, INDEX, INTRA, MODE, OFFSET, SIZE, SKIP, SPLIT, VECTOR_X, VECTOR_Y,
)
from thaumatrope.data import check_slice
from thaumatrope.errors import BadData, OutOfRange
from thaumatrope.frames import Format
from thaumatrope.headers import PictureHeader, Settings
from thaumatrope.syntax import read_data, write_data


def settings_of(chroma, width=24, height=24, rows=2, offset=False):
    return Settings(Format(width, height, chroma=chroma), slots=4, rows=rows, offset=offset)


def header_of(settings, kind):
    return PictureHeader(settings, number=7, kind=kind[0], refs=KINDS[kind], level=9)


def intra(chroma, mode=0):
    return "intra", [mode], 0, zeros(chroma, 8)


def inter(chroma, motion=(0, 0, (0, 0), None)):
    return "inter", [motion], 8, zeros(chroma, 8)


class ListingEncoder(Listing):
    """An encoder of which the steps are found in the list of all encoders."""

    made = []

    def __init__(self):
        super().__init__()
        self.made.append(self)

    def octets(self):
        return []


def steps_of(settings, header, index, data):
    """The decisions that write_data codes."""
    ListingEncoder.made.clear()
    with mock.patch.object(syntax, "Encoder", ListingEncoder):
        write_data(settings, header, index, data)
    (encoder,) = ListingEncoder.made
    return encoder.steps


def code_of(steps):
    """The octets that an encoder gives for decisions."""
    encoder = Encoder()
    for context, decision in steps:
        if context is None:
            encoder.code_even(decision)
        else:
            encoder.code(context, decision)
    return encoder.octets()


class Syntax(unittest.TestCase):
    def both(self, settings, header, index, data, steps):
        """Check the decisions, the code, and reading of the code."""
        before = copy.deepcopy(data)
        self.assertEqual(steps_of(settings, header, index, data), steps)
        code = write_data(settings, header, index, data)
        self.assertEqual(code, code_of(steps))
        self.assertEqual(data, before)
        kept = list(code)
        self.assertEqual(read_data(settings, header, index, code, delta=data[0]), data)
        self.assertEqual(code, kept)


class Offsets(Syntax):
    """A picture of one block, skipped, behind the offsets of the slice."""

    def check(self, chroma, offsets, steps, switch=True):
        settings = settings_of(chroma, 8, 8, offset=switch)
        self.both(settings, header_of(settings, "P"), 0, (0, offsets, [("skip",)]), steps + [(SKIP, 1)])

    def test_no_item(self):
        for chroma in (0, 1, 2):
            planes = len(SHAPES[chroma, 8])
            self.check(chroma, [None] * planes, [(OFFSET, 0)] * planes)
            self.check(chroma, [None] * planes, [], switch=False)

    def test_each_direction(self):
        for direction in range(4):
            for values in ([-7, -7, -7, -7], [7, 7, 7, 7], [0, 0, 0, 0], [-7, 7, -1, 3]):
                item = plain_flag(OFFSET, True) + plain_choice(OFFSET + 1, direction, 4)
                for value in values:
                    item += plain_choice(OFFSET + 4, value + 7, 15)
                self.check(0, [(direction, values)], item)
                for place in range(3):
                    offsets = [None] * 3
                    offsets[place] = (direction, values)
                    steps = [[(OFFSET, 0)]] * 3
                    steps[place] = item
                    for chroma in (1, 2):
                        self.check(chroma, offsets, steps[0] + steps[1] + steps[2])

    def test_by_hand(self):
        # The direction is 2, with the digits 1 0; 0, 14 and 7 have the digits 0000, 1110 and 0111.
        steps = [(OFFSET, 1), (OFFSET + 1, 1), (OFFSET + 3, 0)]
        base = OFFSET + 4
        steps += [(base, 0), (base + 1, 0), (base + 3, 0), (base + 7, 0)]
        steps += [(base, 1), (base + 2, 1), (base + 6, 1), (base + 14, 0)]
        steps += [(base, 0), (base + 1, 1), (base + 4, 1), (base + 10, 1)] * 2
        self.check(0, [(2, [-7, 7, 0, 0])], steps)


class Flags(Syntax):
    """Slices of 3 x 2 blocks: the flags count the neighbours that are skipped or intra."""

    def flags(self, blocks, kind="P", index=0):
        """The contexts of the flags SKIP and INTRA, block by block."""
        settings = settings_of(0, height=40)
        found = []
        for context, decision in steps_of(settings, header_of(settings, kind), index, (0, [None], blocks)):
            if context in (SKIP, SKIP + 1, SKIP + 2):
                found.append([(context - SKIP, decision)])
            elif context in (INTRA, INTRA + 1, INTRA + 2):
                found[-1].append((context - INTRA, decision))
        return found

    def test_skipped_neighbours(self):
        # To the left and above there are none at the corner, then one, then two. Slice 1 does not begin at the top.
        for index in (0, 1):
            for kind in ("P", "PP", "B"):
                self.assertEqual(self.flags([("skip",)] * 6, kind, index), [
                    [(0, 1)], [(1, 1)], [(1, 1)],
                    [(1, 1)], [(2, 1)], [(2, 1)],
                ])

    def test_intra_neighbours(self):
        for index in (0, 1):
            for kind in ("P", "PP", "B"):
                self.assertEqual(self.flags([intra(0)] * 6, kind, index), [
                    [(0, 0), (0, 1)], [(0, 0), (1, 1)], [(0, 0), (1, 1)],
                    [(0, 0), (1, 1)], [(0, 0), (2, 1)], [(0, 0), (2, 1)],
                ])

    def test_inter_neighbours(self):
        for index in (0, 1):
            self.assertEqual(self.flags([inter(0)] * 6, "P", index), [[(0, 0), (0, 0)]] * 6)

    def test_mixed_neighbours(self):
        blocks = [("skip",), intra(0), inter(0), intra(0), inter(0), ("skip",)]
        self.assertEqual(self.flags(blocks), [
            [(0, 1)],
            [(1, 0), (0, 1)],  # skip to the left
            [(0, 0), (1, 0)],  # intra to the left
            [(1, 0), (0, 1)],  # skip above
            [(0, 0), (2, 0)],  # intra to the left and above
            [(0, 1)],  # inter to the left and above
        ])
        blocks = [inter(0), ("skip",), intra(0), ("skip",), intra(0), intra(0)]
        self.assertEqual(self.flags(blocks), [
            [(0, 0), (0, 0)],
            [(0, 1)],
            [(1, 0), (0, 1)],
            [(0, 1)],  # inter above: the last block of the row above is not to the left
            [(2, 0), (0, 1)],  # skip to the left and above
            [(0, 0), (2, 1)],
        ])

    def test_the_end_of_a_row_is_no_neighbour_of_the_next_row(self):
        blocks = [inter(0), inter(0), ("skip",), inter(0), inter(0), inter(0)]
        self.assertEqual([flags[0] for flags in self.flags(blocks)],
                         [(0, 0), (0, 0), (0, 1), (0, 0), (0, 0), (1, 0)])

    def test_the_slice_above_is_none(self):
        # Slice 2 has one row; its code is that of the first row of another slice.
        for block in (("skip",), intra(0), inter(0)):
            self.assertEqual(self.flags([block] * 3, "P", 2), self.flags([block] * 6, "P", 0)[:3])

    def test_there_are_no_such_flags_in_an_i_picture(self):
        self.assertEqual(self.flags([intra(0)] * 6, "I"), [])
        settings = settings_of(0, 8, 8)
        steps = [(SPLIT, 0)] + plain_choice(MODE, 5, 8) + [(CODED, 0)]
        self.both(settings, header_of(settings, "I"), 0, (0, [None], [intra(0, 5)]), steps)


class Blocks(Syntax):
    """Pictures of one block."""

    def check(self, chroma, kind, block, steps):
        settings = settings_of(chroma, 8, 8)
        self.both(settings, header_of(settings, kind), 0, (-3, [None] * len(SHAPES[chroma, 8]), [block]), steps)

    def test_skipped_blocks(self):
        for chroma in (0, 1, 2):
            for kind in ("P", "PP", "B"):
                self.check(chroma, kind, ("skip",), [(SKIP, 1)])

    def test_intra_blocks(self):
        before = {"I": [], "P": [(SKIP, 0), (INTRA, 1)], "PP": [(SKIP, 0), (INTRA, 1)], "B": [(SKIP, 0), (INTRA, 1)]}
        uncoded = {0: [(CODED, 0)], 1: [(CODED, 0)] + [(CODED + 3, 0)] * 2, 2: [(CODED, 0)] + [(CODED + 3, 0)] * 2}
        for kind in KINDS:
            for chroma in (0, 1, 2):
                for mode in range(8):
                    for chroma_mode in range(4 if chroma else 1):
                        last = plain_choice(CHROMA, chroma_mode, 4) if chroma else []
                        one = [(SPLIT, 0)] + plain_choice(MODE, mode, 8)
                        block = "intra", [mode], chroma_mode, zeros(chroma, 8)
                        self.check(chroma, kind, block, before[kind] + one + last + uncoded[chroma])
                        modes = [mode, 0, 7 - mode, 7]
                        four = [(SPLIT, 1)]
                        for number in modes:
                            four += plain_choice(MODE, number, 8)
                        block = "intra", modes, chroma_mode, zeros(chroma, 4)
                        flags = [(CODED, 0)] * 4
                        flags += [(CODED + 3, 0)] * {0: 0, 1: 2, 2: 8}[chroma]
                        self.check(chroma, kind, block, before[kind] + four + last + flags)

    def test_inter_blocks(self):
        x, y = plain_signed(VECTOR_X, 3), plain_signed(VECTOR_Y, -4)
        cases = [
            ("P", (0, 0, (3, -4), None), x + y),
            ("PP", (0, 0, (3, -4), None), [(INDEX, 0)] + x + y), ("PP", (0, 1, (3, -4), None), [(INDEX, 1)] + x + y),
            ("B", (0, 0, (3, -4), None), plain_choice(DIRECTION, 0, 3) + x + y),
            ("B", (1, 0, None, (3, -4)), plain_choice(DIRECTION, 1, 3) + x + y),
            ("B", (2, 0, (3, -4), (3, -4)), plain_choice(DIRECTION, 2, 3) + x + y + x + y),
        ]
        for kind, motion, steps in cases:
            for size, flag in ((8, 0), (4, 1)):
                for chroma in (0, 1, 2):
                    block = "inter", [motion], size, zeros(chroma, size)
                    luma = 1 if size == 8 else 4
                    flags = [(CODED, 0)] * luma + [(CODED + 3, 0)] * {0: 0, 1: 2, 2: 2 * luma}[chroma]
                    start = [(SKIP, 0), (INTRA, 0), (SPLIT + 1, 0)]
                    self.check(chroma, kind, block, start + steps + [(SIZE, flag)] + flags)

    def test_four_motions(self):
        # The vectors of the quarters: predicted are 0, the median of 8, 0, 0, that of 0, 8, 0, and that of 2, 4, 8.
        motions = [(0, 0, (x, x), None) for x in (8, 4, 2, 9)]
        steps = [(SKIP, 0), (INTRA, 0), (SPLIT + 1, 1)]
        for difference in (8, 4, 2, 5):
            steps += plain_signed(VECTOR_X, difference) + plain_signed(VECTOR_Y, difference)
        for size, flag, count in ((8, 0, 1), (4, 1, 4)):
            block = "inter", motions, size, zeros(0, size)
            self.check(0, "P", block, steps + [(SIZE, flag)] + [(CODED, 0)] * count)

    def test_motion_of_neighbours(self):
        # Two blocks beside each other: one that is skipped, intra or inter, and one with a vector that is predicted.
        settings = settings_of(0, 16, 16)
        header = header_of(settings, "P")
        moved = inter(0, (0, 0, (6, 2), None))
        blocks = [moved, moved, moved, moved]
        start, end = [(SKIP, 0), (INTRA, 0), (SPLIT + 1, 0)], [(SIZE, 0), (CODED, 0)]
        first = plain_signed(VECTOR_X, 6) + plain_signed(VECTOR_Y, 2)
        # In the first row and column two neighbours count as (0, 0); the last block has three with the same vector.
        steps = (start + first + end) * 3 + start + [(VECTOR_X, 0), (VECTOR_Y, 0)] + end
        self.both(settings, header, 0, (0, [None], blocks), steps)
        # A skipped block in the last place moves like its neighbours, and so does one in the third.
        blocks = [moved, moved, ("skip",), moved]
        steps = (start + first + end) * 2 + [(SKIP, 1), (SKIP + 1, 0)] + start[1:]
        # The third block is predicted by (0, 0): medians of 6, 0, 0. So the last has 0, 6 and 6 around it.
        steps += [(VECTOR_X, 0), (VECTOR_Y, 0)] + end
        self.both(settings, header, 0, (0, [None], blocks), steps)
        # An intra block has no motion.
        blocks = [moved, intra(0), moved, moved]
        steps = start + first + end + [(SKIP, 0), (INTRA, 1), (SPLIT, 0)] + plain_choice(MODE, 0, 8) + [(CODED, 0)]
        steps += start + first + end + [(SKIP, 0), (INTRA + 1, 0), (SPLIT + 1, 0)]
        self.both(settings, header, 0, (0, [None], blocks), steps + [(VECTOR_X, 0), (VECTOR_Y, 0)] + end)

    def test_flags_of_transform_blocks(self):
        # One level at the first index of some transform blocks: the context counts those before, up to 2.
        chance = random.Random(45)
        for chroma in (0, 1, 2):
            for size in (8, 4):
                for _ in range(30):
                    levels = zeros(chroma, size)
                    steps = [(SPLIT, 0 if size == 8 else 1)] + plain_choice(MODE, 0, 8) * (1 if size == 8 else 4)
                    steps += plain_choice(CHROMA, 0, 4) if chroma else []
                    counts = [0, 0, 0]
                    for plane, blocks in enumerate(levels):
                        for block in blocks:
                            block[0] = chance.randrange(2)
                            coded = counts[0] if plane == 0 else counts[1] + counts[2]
                            base = CODED if plane == 0 else CODED + 3
                            steps += plain_flag(base + min(coded, 2), block[0] == 1)
                            if block[0] == 1:
                                steps += plain_levels(block)
                                counts[plane] += 1
                    modes = [0] if size == 8 else [0] * 4
                    self.check(chroma, "I", ("intra", modes, 0, levels), steps)

    def test_flags_of_transform_blocks_by_hand(self):
        one = [1] + [0] * 15
        levels = [[one, [0] * 16, one, one], [one], [[0] * 16]]
        steps = [(SKIP, 0), (INTRA, 0), (SPLIT + 1, 0)] + [(VECTOR_X, 0), (VECTOR_Y, 0), (SIZE, 1)]
        steps += [(CODED, 1)] + plain_levels(one) + [(CODED + 1, 0)] + [(CODED + 1, 1)] + plain_levels(one)
        steps += [(CODED + 2, 1)] + plain_levels(one)
        steps += [(CODED + 3, 1)] + plain_levels(one) + [(CODED + 4, 0)]
        self.check(1, "P", ("inter", [(0, 0, (0, 0), None)], 4, levels), steps)
        full = [[one] * 4] * 3
        steps = [(SPLIT, 1)] + plain_choice(MODE, 1, 8) * 4 + plain_choice(CHROMA, 2, 4)
        for context in (0, 1, 2, 2, 3, 4, 5, 5, 5, 5, 5, 5):
            steps += [(CODED + context, 1)] + plain_levels(one)
        self.check(2, "I", ("intra", [1] * 4, 2, full), steps)


class Slices(Syntax):
    def settings(self):
        for chroma in (0, 1, 2):
            for rows, offset in ((1, False), (2, True), (9, True)):
                yield settings_of(chroma, 20, 21, rows=rows, offset=offset)

    def counts(self, settings):
        """The number of blocks of each slice: there are 3 x 3 blocks, and the last slice may have fewer rows."""
        return {1: [3, 3, 3], 2: [6, 3], 9: [9]}[settings.rows]

    def test_random_data(self):
        chance = random.Random(46)
        for settings in self.settings():
            for kind in KINDS:
                header = header_of(settings, kind)
                for index, count in enumerate(self.counts(settings)):
                    for _ in range(2):
                        data = random_data(chance, settings, header, count, chance.choice((5, 1023)))
                        self.assertIsNone(check_slice(settings, header, index, data))
                        self.both(settings, header, index, data, plain_slice(settings, header, data))

    def test_any_octets(self):
        chance = random.Random(47)
        cases = [[], [0] * 200, [255] * 3000] + [[chance.randrange(256) for _ in range(2000)] for _ in range(3)]
        for settings in self.settings():
            for kind in KINDS:
                header = header_of(settings, kind)
                for index, count in enumerate(self.counts(settings)):
                    for octets in cases:
                        before = list(octets)
                        data = read_data(settings, header, index, octets, delta=chance.randint(-31, 31))
                        self.assertEqual(octets, before)
                        self.assertIsInstance(data, tuple)
                        self.assertEqual(len(data[2]), count)
                        self.assertIsNone(check_slice(settings, header, index, data))
                        code = write_data(settings, header, index, data)
                        self.assertEqual(read_data(settings, header, index, code, delta=data[0]), data)

    def test_no_octets_and_octets_that_are_all_255(self):
        settings = settings_of(1, 24, 8, offset=True)
        blocks = {"I": [], "P": []}
        for kind, expected in blocks.items():
            offsets, found = read_data(settings, header_of(settings, kind), 0, [])[1:]
            self.assertEqual(offsets, [None] * 3)
            expected += [intra(1)] * 3 if kind == "I" else [inter(1)] * 3
            self.assertEqual(found, expected)
        offsets, found = read_data(settings, header_of(settings, "P"), 0, [255] * 999)[1:]
        self.assertEqual(offsets[0], (3, [7, 7, 7, 7]))
        self.assertEqual(found[0], ("skip",))

    def test_the_delta_is_the_one_that_is_passed(self):
        settings = settings_of(0, 8, 8)
        header = header_of(settings, "P")
        for delta in (-31, -1, 0, 1, 31):
            self.assertEqual(read_data(settings, header, 0, [255], delta=delta), (delta, [None], [("skip",)]))
            self.assertEqual(write_data(settings, header, 0, (delta, [None], [("skip",)])), code_of([(SKIP, 1)]))
        self.assertEqual(read_data(settings, header, 0, [255]), (0, [None], [("skip",)]))

    def test_no_list_occurs_twice(self):
        chance = random.Random(48)
        for settings in self.settings():
            for kind in KINDS:
                header = header_of(settings, kind)
                octets = [chance.randrange(256) for _ in range(900)]
                data = read_data(settings, header, 0, octets)
                lists = [data[1], data[2]] + [item[1] for item in data[1] if item is not None]
                for block in data[2]:
                    if block[0] != "skip":
                        lists += [block[1], block[3]] + block[3] + [part for plane in block[3] for part in plane]
                self.assertEqual(len({id(part) for part in lists}), len(lists))
                for part in lists:
                    part.append(0)
                self.assertNotEqual(read_data(settings, header, 0, octets), data)

    def test_faulty_data(self):
        settings = settings_of(1, rows=2, offset=True)
        header = header_of(settings, "P")
        right = (0, [None] * 3, [("skip",)] * 6)
        self.both(settings, header, 0, right, plain_slice(settings, header, right))
        skips = [("skip",)] * 5
        faults = [
            (), right[:2], right + (0,), (32,) + right[1:], (-32,) + right[1:],
            (0, [None] * 2, right[2]), (0, [None] * 4, right[2]), (0, [None, None, (4, [0] * 4)], right[2]),
            (0, [(0, [0] * 3), None, None], right[2]), (0, [None, (0, [0, 0, 0, 8]), None], right[2]),
            (0, [None] * 3, skips), (0, [None] * 3, skips + [("skip",)] * 2), (0, [None] * 3, [("copy",)] + skips),
            (0, [None] * 3, skips + [("intra", [8], 0, zeros(1, 8))]), (0, [None] * 3, skips + [intra(0)]),
            (0, [None] * 3, skips + [inter(1, (0, 1, (0, 0), None))]),
            (0, [None] * 3, skips + [("inter", [(0, 0, (0, 0), None)], 8, [[[524288] * 64], [[0] * 16], [[0] * 16]])]),
        ]
        for data in faults:
            with self.assertRaises(BadData, msg=repr(data)[:200]):
                write_data(settings, header, 0, data)
            # There is no such slice: that is found first.
            for index in (-1, 2, 3, 99):
                with self.assertRaises(OutOfRange):
                    write_data(settings, header, index, data)
        with self.assertRaises(BadData):
            write_data(settings, header, 1, right)
        with self.assertRaises(BadData):
            write_data(settings, header_of(settings, "I"), 0, right)

    def test_slices_that_do_not_exist(self):
        for settings, last in ((settings_of(1, rows=2), 1), (settings_of(0, rows=1), 2), (settings_of(2, rows=32), 0)):
            for kind in KINDS:
                for index in (-2, -1, last + 1, last + 2, 1000):
                    for octets in ([], [7, 8, 9]):
                        with self.assertRaises(OutOfRange):
                            read_data(settings, header_of(settings, kind), index, octets)


if __name__ == "__main__":
    unittest.main()
