"""Points 23, 24, 25 and (for the offsets) 43: the form of picture data."""

import copy
import unittest

from tests.plain_syntax import SHAPES
from thaumatrope.data import check_block, check_slice, level_shape, zero_levels
from thaumatrope.errors import BadData, OutOfRange
from thaumatrope.frames import Format
from thaumatrope.headers import PictureHeader, Settings

ENDS = (-524288, 524287)


def settings_of(chroma, **more):
    return Settings(Format(20, 20, chroma=chroma), slots=4, **more)


def headers_of(settings):
    return {
        "I": PictureHeader(settings, number=0),
        "P": PictureHeader(settings, number=0, kind="P", refs=[2]),
        "PP": PictureHeader(settings, number=0, kind="P", refs=[2, 3]),
        "B": PictureHeader(settings, number=0, kind="B", refs=[0, 1]),
    }


def levels_of(chroma, size, level=0):
    return [[[level] * length for _ in range(count)] for count, length in SHAPES[chroma, size]]


MOTIONS = {
    "P": [(0, 0, (0, 0), None), (0, 0, (1023, -1023), None), (0, 0, (-1023, 1023), None)],
    "PP": [(0, 0, (0, 0), None), (0, 1, (7, 8), None)],
    "B": [(0, 0, (1, 2), None), (1, 0, None, (-1023, 1023)), (2, 0, (1023, -1023), (0, 5))],
}
WRONG_MOTIONS = {
    "P": [
        (-1, 0, (0, 0), None), (1, 0, (0, 0), None), (1, 0, None, (0, 0)), (2, 0, (0, 0), (0, 0)),
        (-1, 0, (0, 0), (0, 0)), (-1, 0, None, (0, 0)),
        (0, -1, (0, 0), None), (0, 1, (0, 0), None), (0, 2, (0, 0), None),
        (0, 0, None, None), (0, 0, (0, 0), (0, 0)), (0, 0, None, (0, 0)),
    ],
    "PP": [(0, -1, (0, 0), None), (0, 2, (0, 0), None), (1, 1, (0, 0), None), (0, 1, None, None)],
    "B": [
        (-1, 0, (0, 0), None), (3, 0, (0, 0), (0, 0)), (0, 1, (0, 0), None), (0, -1, (0, 0), None),
        (-1, 0, (0, 0), (0, 0)), (-1, 0, None, (0, 0)), (3, 0, (0, 0), None), (3, 0, None, (0, 0)),
        (1, 1, None, (0, 0)), (2, 1, (0, 0), (0, 0)),
        (0, 0, None, None), (0, 0, (0, 0), (0, 0)), (0, 0, None, (0, 0)),
        (1, 0, None, None), (1, 0, (0, 0), (0, 0)), (1, 0, (0, 0), None),
        (2, 0, None, None), (2, 0, (0, 0), None), (2, 0, None, (0, 0)),
    ],
}
WRONG_VECTORS = [(-1024, 0), (1024, 0), (0, -1024), (0, 1024), (), (0,), (0, 0, 0)]


def wrong_motions(kind):
    """Motions with one fault each, for a picture of a kind."""
    yield from WRONG_MOTIONS[kind]
    for motion in MOTIONS[kind]:
        yield motion[:3]
        yield motion + (0,)
        yield motion + (None,)
        yield ()
        for place in (2, 3):
            if motion[place] is not None:
                for vector in WRONG_VECTORS:
                    yield motion[:place] + (vector,) + motion[place + 1:]


def wrong_levels(chroma, size):
    """Levels with one fault each."""
    right = levels_of(chroma, size)
    yield []
    yield right[:-1]
    yield right + [copy.deepcopy(right[-1])]
    for plane in range(len(right)):
        for blocks in ([], right[plane][:-1], right[plane] + [list(right[plane][0])]):
            yield right[:plane] + [blocks] + right[plane + 1:]
        for place in range(len(right[plane])):
            length = len(right[plane][place])
            for block in ([], [0] * (length - 1), [0] * (length + 1), [0] * 16 if length == 64 else [0] * 64):
                wrong = copy.deepcopy(right)
                wrong[plane][place] = block
                yield wrong
            for index in range(length):
                for level in (ENDS[0] - 1, ENDS[1] + 1):
                    wrong = copy.deepcopy(right)
                    wrong[plane][place][index] = level
                    yield wrong
    other = levels_of(chroma, 12 - size)
    if other != right:
        yield other


class Shapes(unittest.TestCase):
    def test_shapes(self):
        for (chroma, size), shape in SHAPES.items():
            self.assertEqual(level_shape(Format(9, 9, chroma=chroma), size), shape)

    def test_levels_that_are_all_0(self):
        for chroma, size in SHAPES:
            levels = zero_levels(Format(9, 9, chroma=chroma), size)
            self.assertEqual(levels, levels_of(chroma, size))

    def test_lists_are_new(self):
        fmt = Format(9, 9, chroma=2)
        shape = level_shape(fmt, 4)
        shape.append(1)
        self.assertEqual(level_shape(fmt, 4), SHAPES[2, 4])
        levels = zero_levels(fmt, 4)
        parts = [levels] + levels + [block for plane in levels for block in plane]
        self.assertEqual(len({id(part) for part in parts}), 1 + 3 + 12)
        levels[0][0][0] = 5
        self.assertEqual(zero_levels(fmt, 4), levels_of(2, 4))

    def test_other_sizes(self):
        for chroma in (0, 1, 2):
            for size in (-8, -4, 0, 1, 2, 3, 5, 6, 7, 9, 16, 64):
                with self.assertRaises(OutOfRange):
                    level_shape(Format(9, 9, chroma=chroma), size)
                with self.assertRaises(OutOfRange):
                    zero_levels(Format(9, 9, chroma=chroma), size)


class Blocks(unittest.TestCase):
    def each(self):
        for chroma in (0, 1, 2):
            settings = settings_of(chroma)
            for kind, header in headers_of(settings).items():
                yield chroma, settings, kind, header

    def accept(self, settings, header, block):
        before = copy.deepcopy(block)
        self.assertIsNone(check_block(settings, header, block))
        self.assertEqual(block, before)

    def refuse(self, settings, header, block):
        with self.assertRaises(BadData, msg=repr(block)[:300]):
            check_block(settings, header, block)

    def test_skipped_blocks(self):
        for _, settings, kind, header in self.each():
            if kind == "I":
                self.refuse(settings, header, ("skip",))
            else:
                self.accept(settings, header, ("skip",))
            for more in (0, None, [], ("skip",)):
                self.refuse(settings, header, ("skip", more))

    def test_intra_blocks(self):
        for chroma, settings, _, header in self.each():
            for chroma_mode in range(4 if chroma else 1):
                for mode in range(8):
                    self.accept(settings, header, ("intra", [mode], chroma_mode, levels_of(chroma, 8)))
                    modes = [0, 7, mode, 3]
                    self.accept(settings, header, ("intra", modes, chroma_mode, levels_of(chroma, 4)))
            for level in ENDS:
                self.accept(settings, header, ("intra", [1], 0, levels_of(chroma, 8, level)))
                self.accept(settings, header, ("intra", [1, 2, 3, 4], 0, levels_of(chroma, 4, level)))

    def test_wrong_modes(self):
        for chroma, settings, _, header in self.each():
            for mode in (-1, 8, 100):
                self.refuse(settings, header, ("intra", [mode], 0, levels_of(chroma, 8)))
                for place in range(4):
                    modes = [0, 1, 2, 3]
                    modes[place] = mode
                    self.refuse(settings, header, ("intra", modes, 0, levels_of(chroma, 4)))
            for count in (0, 2, 3, 5, 8):
                for size in (8, 4):
                    self.refuse(settings, header, ("intra", [0] * count, 0, levels_of(chroma, size)))
            for chroma_mode in (-1, 4) if chroma else (-1, 1, 2, 3, 4):
                self.refuse(settings, header, ("intra", [0], chroma_mode, levels_of(chroma, 8)))
                self.refuse(settings, header, ("intra", [0] * 4, chroma_mode, levels_of(chroma, 4)))

    def test_inter_blocks(self):
        for chroma, settings, kind, header in self.each():
            for size in (8, 4):
                for motion in MOTIONS.get(kind, []):
                    for level in (0,) + ENDS:
                        levels = levels_of(chroma, size, level)
                        self.accept(settings, header, ("inter", [motion], size, levels))
                    four = [motion, MOTIONS[kind][0], MOTIONS[kind][-1], motion]
                    self.accept(settings, header, ("inter", four, size, levels_of(chroma, size)))
                if kind == "I":
                    for motion in MOTIONS["P"] + MOTIONS["B"]:
                        self.refuse(settings, header, ("inter", [motion], size, levels_of(chroma, size)))
                        self.refuse(settings, header, ("inter", [motion] * 4, size, levels_of(chroma, size)))

    def test_wrong_motions(self):
        for chroma, settings, kind, header in self.each():
            if kind == "I":
                continue
            right = MOTIONS[kind][0]
            for motion in wrong_motions(kind):
                self.refuse(settings, header, ("inter", [motion], 8, levels_of(chroma, 8)))
                for place in range(4):
                    motions = [right] * 4
                    motions[place] = motion
                    self.refuse(settings, header, ("inter", motions, 8, levels_of(chroma, 8)))
            for count in (0, 2, 3, 5):
                self.refuse(settings, header, ("inter", [right] * count, 8, levels_of(chroma, 8)))

    def test_motions_belong_to_the_kind_of_the_picture(self):
        settings = settings_of(0)
        headers = headers_of(settings)
        second = ("inter", [(1, 0, None, (0, 0))], 8, levels_of(0, 8))
        both = ("inter", [(2, 0, (0, 0), (0, 0))], 8, levels_of(0, 8))
        index = ("inter", [(0, 1, (0, 0), None)], 8, levels_of(0, 8))
        for kind, allowed in (("P", []), ("PP", [index]), ("B", [second, both])):
            for block in (second, both, index):
                if block in allowed:
                    self.accept(settings, headers[kind], block)
                else:
                    self.refuse(settings, headers[kind], block)

    def test_wrong_transform_sizes(self):
        for chroma, settings, kind, header in self.each():
            if kind == "I":
                continue
            for size in (-8, 0, 1, 2, 5, 6, 7, 9, 16):
                for shape in (8, 4):
                    self.refuse(settings, header, ("inter", MOTIONS[kind][:1], size, levels_of(chroma, shape)))

    def test_wrong_levels(self):
        for chroma, settings, kind, header in self.each():
            if kind == "PP":
                continue
            for size, modes in ((8, [5]), (4, [5, 6, 7, 0])):
                for levels in wrong_levels(chroma, size):
                    self.refuse(settings, header, ("intra", modes, 0, levels))
                    if kind != "I":
                        self.refuse(settings, header, ("inter", MOTIONS[kind][:1], size, levels))

    def test_names(self):
        for chroma, settings, kind, header in self.each():
            levels = levels_of(chroma, 8)
            for name in ("", "Intra", "intra ", "INTER", "skipped", "copy", "i"):
                self.refuse(settings, header, (name,))
                self.refuse(settings, header, (name, [0], 0, levels))
                self.refuse(settings, header, (name, [(0, 0, (0, 0), None)], 8, levels))
            # The parts of a block with another name.
            self.refuse(settings, header, ("inter", [0], 0, levels))
            self.refuse(settings, header, ("inter", [7], 8, levels))
            self.refuse(settings, header, ("intra", [(0, 0, (0, 0), None)], 8, levels))
            self.refuse(settings, header, ("intra", [(0, 0, (0, 0), None)], 0, levels))
            self.refuse(settings, header, ("skip", [0], 0, levels))
            self.refuse(settings, header, ("intra",))
            self.refuse(settings, header, ("inter",))

    def test_parts_of_other_kinds(self):
        for chroma, settings, kind, header in self.each():
            levels = levels_of(chroma, 8)
            faults = [(), ("intra", None, 0, levels), ("intra", [None], 0, levels), ("intra", [0], None, levels),
                      ("intra", [0], 0, None), ("intra", [0], 0, [None] * len(levels)), ("inter", None, 8, levels),
                      ("inter", [None], 8, levels), ("inter", MOTIONS["P"][:1], None, levels)]
            for block in faults:
                self.refuse(settings, header, block)

    def test_numbers_of_items(self):
        for chroma, settings, kind, header in self.each():
            blocks = [("intra", [0], 0, levels_of(chroma, 8)), ("intra", [0] * 4, 0, levels_of(chroma, 4))]
            if kind != "I":
                blocks.append(("inter", MOTIONS[kind][:1], 8, levels_of(chroma, 8)))
            for block in blocks:
                self.accept(settings, header, block)
                for count in range(1, 4):
                    self.refuse(settings, header, block[:count])
                for more in (0, None, []):
                    self.refuse(settings, header, block + (more,))


class Slices(unittest.TestCase):
    """A picture of 3 x 3 blocks in slices of two rows: 6 blocks in slice 0, and 3 in slice 1."""

    def setUp(self):
        self.settings = settings_of(1, rows=2, offset=True)
        self.header = headers_of(self.settings)["P"]
        self.intra = ("intra", [0], 0, levels_of(1, 8))
        self.offsets = [None, (0, [0, 0, 0, 0]), (3, [-7, 7, -1, 1])]

    def accept(self, index, data, settings=None, header=None):
        before = copy.deepcopy(data)
        self.assertIsNone(check_slice(settings or self.settings, header or self.header, index, data))
        self.assertEqual(data, before)

    def refuse(self, index, data, settings=None, header=None, error=BadData):
        with self.assertRaises(error, msg=repr(data)[:300]):
            check_slice(settings or self.settings, header or self.header, index, data)

    def test_valid_data(self):
        for delta in (-31, 0, 31):
            self.accept(0, (delta, self.offsets, [self.intra, ("skip",)] * 3))
            self.accept(1, (delta, [None] * 3, [("skip",)] * 3))

    def test_deltas(self):
        for delta in (-32, 32, 1000):
            self.refuse(1, (delta, self.offsets, [("skip",)] * 3))

    def test_numbers_of_items(self):
        self.refuse(1, ())
        self.refuse(1, (0,))
        self.refuse(1, (0, self.offsets))
        self.refuse(1, (0, self.offsets, [("skip",)] * 3, None))
        self.refuse(1, (0, self.offsets, [("skip",)] * 3, []))

    def test_numbers_of_blocks(self):
        for index, right in ((0, 6), (1, 3)):
            for count in range(10):
                data = (0, self.offsets, [("skip",)] * count)
                if count == right:
                    self.accept(index, data)
                else:
                    self.refuse(index, data)

    def test_each_block_is_checked(self):
        faults = [("copy",), ("skip", 0), ("intra", [8], 0, levels_of(1, 8)), ("intra", [0], 0, levels_of(0, 8)),
                  ("inter", [(0, 1, (0, 0), None)], 8, levels_of(1, 8))]
        for fault in faults:
            for place in range(6):
                blocks = [self.intra] * 6
                blocks[place] = fault
                self.refuse(0, (0, self.offsets, blocks))

    def test_blocks_belong_to_the_kind_of_the_picture(self):
        header = headers_of(self.settings)["I"]
        self.accept(1, (0, self.offsets, [self.intra] * 3), header=header)
        self.refuse(1, (0, self.offsets, [self.intra, ("skip",), self.intra]), header=header)

    def test_valid_offsets(self):
        for direction in range(4):
            for values in ([0, 0, 0, 0], [-7, -7, -7, -7], [7, 7, 7, 7], [1, -2, 3, -4]):
                for place in range(3):
                    offsets = [None, None, None]
                    offsets[place] = (direction, values)
                    self.accept(1, (0, offsets, [("skip",)] * 3))

    def test_wrong_offsets(self):
        zeros = [0, 0, 0, 0]
        items = [(-1, zeros), (4, zeros), (), (0,), (0, zeros, 0), (0, zeros, None)]
        items += [(0, [0] * count) for count in (0, 1, 3, 5)]
        for place in range(4):
            for value in (-8, 8):
                items.append((0, zeros[:place] + [value] + zeros[place + 1:]))
        for item in items:
            for place in range(3):
                offsets = [None, (1, zeros), None]
                offsets[place] = item
                self.refuse(1, (0, offsets, [("skip",)] * 3))

    def test_numbers_of_offsets(self):
        for chroma, right in ((0, 1), (1, 3), (2, 3)):
            settings = settings_of(chroma, rows=2, offset=True)
            header = headers_of(settings)["P"]
            for count in range(5):
                data = (0, [None] * count, [("skip",)] * 3)
                if count == right:
                    self.accept(1, data, settings, header)
                else:
                    self.refuse(1, data, settings, header)

    def test_offsets_without_the_switch(self):
        settings = settings_of(1, rows=2, deblock=True)
        header = headers_of(settings)["P"]
        self.accept(1, (0, [None] * 3, [("skip",)] * 3), settings, header)
        for place in range(3):
            offsets = [None] * 3
            offsets[place] = (0, [0, 0, 0, 0])
            self.refuse(1, (0, offsets, [("skip",)] * 3), settings, header)
        self.refuse(1, (0, [None] * 2, [("skip",)] * 3), settings, header)

    def test_slices_that_do_not_exist(self):
        right = (0, self.offsets, [("skip",)] * 3)
        for index in (-1, 2, 3, 1000):
            for data in (right, (), (32, [], []), (0, self.offsets, [("copy",)] * 3)):
                self.refuse(index, data, error=OutOfRange)


if __name__ == "__main__":
    unittest.main()
