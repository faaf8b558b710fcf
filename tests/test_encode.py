"""Points 61 and 62: encoding by choices."""

import copy
import itertools
import random
import unittest

from tests.plain_encode import moved, plain_encode
from tests.plain_frames import moving_frame, random_frame
from tests.plain_stream import random_header
from tests.plain_syntax import zeros
from thaumatrope.decoder import decode_stream
from thaumatrope.encoder import check_pictures, encode_frames, rebuild_pictures, write_stream
from thaumatrope.errors import BadData, BadFrame, OutOfRange
from thaumatrope.frames import Format, flat_frame
from thaumatrope.headers import PictureHeader, Settings

ONE = Settings(Format(8, 8), slots=2)
COLOUR = Settings(Format(8, 8, chroma=1), slots=2, offset=True)


def flat_levels(*firsts):
    """The levels of a block of ONE, or of COLOUR, of which only the first one of each plane may not be 0."""
    return [[[first] + [0] * (63 if plane == 0 else 15)] for plane, first in enumerate(firsts)]


class Intra(unittest.TestCase):
    """Blocks of "I" pictures, choice by choice."""

    def encode(self, settings, value, choices, level=0):
        """The data of the one slice of a picture of one value."""
        frames = [flat_frame(settings.fmt, value)]
        header = PictureHeader(settings, number=0, level=level)
        ((kept, slices),) = encode_frames(settings, frames, [header], choices)
        self.assertEqual(kept, header)
        self.assertEqual(([(kept, slices)], len(slices)), (plain_encode(settings, frames, [header], choices)[0], 1))
        return slices[0]

    def test_no_choices(self):
        data = self.encode(ONE, 130, [])
        self.assertEqual(data, (0, [None], [("intra", [0], 0, flat_levels(2))]))
        # The first choice of a slice that is not at level 0 is 0, so delta is -1.
        data = self.encode(COLOUR, 130, [], level=1)
        self.assertEqual(data, (-1, [None] * 3, [("intra", [0], 0, flat_levels(2, 2, 2))]))

    def test_one_mode(self):
        for mode in range(8):
            for factor in (0, 1, 1000):
                data = self.encode(ONE, 125, [2 * factor, 8 * factor + mode])
                self.assertEqual(data, (0, [None], [("intra", [mode], 0, flat_levels(-3))]))

    def test_four_modes(self):
        # Without neighbours 128 is predicted, and then what is next to the quarter: nothing is missing.
        data = self.encode(ONE, 131, [1, 2, 0, 1, 3])
        levels = [[[3] + [0] * 15] + [[0] * 16] * 3]
        self.assertEqual(data, (0, [None], [("intra", [2, 0, 1, 3], 0, levels)]))

    def test_the_chroma_mode(self):
        for mode in range(4):
            data = self.encode(COLOUR, 127, [0, 5, mode + 4])
            self.assertEqual(data, (0, [None] * 3, [("intra", [5], mode, flat_levels(-1, -1, -1))]))
        # Without chroma there is no such choice: the next one is the rounding.
        data = self.encode(ONE, 135, [2, 0, 5, 3, 8], level=2)
        self.assertEqual(data[2], [("intra", [5], 0, flat_levels(1))])
        self.assertEqual(data[0], 1)

    def test_the_rounding(self):
        # At the level 4 the step is 9. A difference of 4 has the level 0 up to the rounding 4: 4 + 8 * r // 8.
        for rounding in range(9):
            data = self.encode(ONE, 132, [1, 0, 0, 9 + rounding], level=4)
            self.assertEqual(data, (0, [None], [("intra", [0], 0, flat_levels(1 if rounding > 4 else 0))]))
            data = self.encode(ONE, 124, [1, 0, 0, rounding], level=4)
            self.assertEqual(data[2], [("intra", [0], 0, flat_levels(-1 if rounding > 4 else 0))])

    def test_delta(self):
        # The steps of the levels 0 to 4 are 1, 2, 4, 6 and 9.
        for level, deltas in ((1, [20, 10, 5]), (2, [10, 5, 3]), (3, [5, 3, 2])):
            for choice, expected in enumerate(deltas):
                data = self.encode(ONE, 148, [choice + 3, 0, 0, 0], level=level)
                self.assertEqual(data, (choice - 1, [None], [("intra", [0], 0, flat_levels(expected))]))
        # The level is clipped to 31, with the step 272.
        for delta, first in ((-1, 0), (0, 0), (1, 0)):
            data = self.encode(ONE, 255, [delta + 1], level=31)
            self.assertEqual(data, (delta, [None], [("intra", [0], 0, flat_levels(first))]))
        settings = Settings(Format(8, 8, depth=12))
        data = self.encode(settings, 2048 + 300, [2], level=31)
        self.assertEqual(data, (1, [None], [("intra", [0], 0, flat_levels(1))]))

    def test_offsets(self):
        choices = [1, 5, 3, 0, 14, 7, 8, 2, 1, 6, 1, 2, 3, 19]
        data = self.encode(COLOUR, 128, choices, level=5)
        items = [(3, [-7, 7, 0, 1]), None, (2, [-6, -5, -4, -3])]
        self.assertEqual(data, (0, items, [("intra", [0], 0, zeros(1, 8))]))
        for choice in (0, 2, 3, 4):
            data = self.encode(COLOUR, 128, [1, choice], level=5)
            self.assertEqual(data, (0, [None] * 3, [("intra", [0], 0, zeros(1, 8))]))

    def test_no_offsets_at_level_0(self):
        data = self.encode(COLOUR, 128, [1, 1, 2, 3, 4, 2], level=0)
        self.assertEqual(data, (0, [None] * 3, [("intra", [1, 2, 3, 4], 2, zeros(1, 4))]))

    def test_no_offsets_without_the_switch(self):
        data = self.encode(ONE, 128, [1, 1, 1, 2, 3, 4], level=9)
        self.assertEqual(data, (0, [None], [("intra", [1, 2, 3, 4], 0, zeros(0, 4))]))


class Inter(unittest.TestCase):
    """A picture of one block behind one that is all of one value."""

    def encode(self, settings, kind, choices, level=0, refs=(0,), value=100):
        fmt = settings.fmt
        frames = [flat_frame(fmt, 100), flat_frame(fmt, value), flat_frame(fmt, 90)]
        headers = [
            PictureHeader(settings, number=0, store=[0]), PictureHeader(settings, number=2, store=[1]),
            PictureHeader(settings, number=1, kind=kind, refs=refs, level=level),
        ]
        # The blocks of the two "I" pictures take all choices that these have.
        choices = [0, 0, 0] * 2 + choices if fmt.chroma == 0 else [0, 0, 0, 0] * 2 + choices
        pictures = encode_frames(settings, frames, headers, choices)
        self.assertEqual(pictures, plain_encode(settings, frames, headers, choices)[0])
        self.assertEqual([header for header, _ in pictures], headers)
        ((delta, offsets, (block,)),) = pictures[2][1]
        return delta, offsets, block

    def test_kinds_of_blocks(self):
        self.assertEqual(self.encode(ONE, "P", [0])[2][0], "inter")
        self.assertEqual(self.encode(ONE, "P", [1, 0, 6])[2], ("intra", [6], 0, flat_levels(-28)))
        # At level 0 there are two kinds.
        self.assertEqual(self.encode(ONE, "P", [2])[2][0], "inter")
        self.assertEqual(self.encode(ONE, "P", [3])[2][0], "intra")
        for level in (1, 31):
            names = [self.encode(ONE, "P", [1, choice], level=level)[2][0] for choice in range(6)]
            self.assertEqual(names, ["inter", "intra", "skip"] * 2)
        self.assertEqual(self.encode(ONE, "P", [1, 2], level=1), (0, [None], ("skip",)))

    def test_one_motion(self):
        delta, offsets, block = self.encode(ONE, "P", [0, 0, 0, 1, 2, 0])
        self.assertEqual((delta, offsets), (0, [None]))
        self.assertEqual(block, ("inter", [(0, 0, (1, -1), None)], 8, zeros(0, 8)))
        block = self.encode(ONE, "P", [0, 0, 7, 33 + 31, 32, 3], value=103)[2]
        self.assertEqual(block, ("inter", [(0, 0, (16, -16), None)], 4, [[[3] + [0] * 15] * 4]))

    def test_each_step(self):
        steps = [0] + [sign * size for size in range(1, 17) for sign in (1, -1)]
        for k in range(33):
            self.assertEqual(moved(k), steps[k])
            block = self.encode(ONE, "P", [0, 0, 0, k, 32 - k])[2]
            self.assertEqual(block[1], [(0, 0, (steps[k], steps[32 - k]), None)])

    def test_indexes(self):
        # With one ref a choice is taken, too.
        self.assertEqual(self.encode(ONE, "P", [0, 0, 1, 5, 6])[2][1], [(0, 0, (3, -3), None)])
        for choice in range(4):
            block = self.encode(ONE, "P", [0, 0, choice, 5, 6], refs=(0, 1))[2]
            value = 10 if choice % 2 else 0
            self.assertEqual(block, ("inter", [(0, choice % 2, (3, -3), None)], 8, flat_levels(value)))

    def test_directions(self):
        choices = [0, 0, 0, 3, 4, 1, 5]
        block = self.encode(ONE, "B", choices, refs=(0, 1))[2]
        self.assertEqual(block, ("inter", [(0, 0, (2, -2), None)], 4, [[[0] * 16] * 4]))
        choices[2] = 1
        block = self.encode(ONE, "B", choices, refs=(0, 1))[2]
        self.assertEqual(block, ("inter", [(1, 0, None, (2, -2))], 4, [[[10] + [0] * 15] * 4]))
        block = self.encode(ONE, "B", [0, 0, 5, 3, 4, 1, 6, 1], refs=(0, 1))[2]
        self.assertEqual(block, ("inter", [(2, 0, (2, -2), (1, -3))], 4, [[[5] + [0] * 15] * 4]))

    def test_four_motions(self):
        # Quarter by quarter: the second one has a neighbour to its left only, the third one above only.
        choices = [0, 1] + [0, 3, 3] + [0, 0, 0] + [0, 1, 2] + [0, 0, 0] + [1, 4]
        block = self.encode(ONE, "P", choices)[2]
        vectors = [(2, 2), (0, 0), (1, -1), (1, 0)]
        self.assertEqual(block[1:3], ([(0, 0, vector, None) for vector in vectors], 4))
        # The median of the three quarters around the last one is that of (0, 0), (1, -1) and (2, 2).
        block = self.encode(ONE, "B", [0, 1] + [0, 3, 3] + [1, 5, 5] + [2, 1, 1, 2, 2] + [2, 0, 0, 0, 0] + [0, 0], refs=(0, 1))[2]
        self.assertEqual(block[1], [
            (0, 0, (2, 2), None), (1, 0, None, (3, 3)), (2, 0, (1, 1), (-1, -1)), (2, 0, (1, 1), (0, 0)),
        ])

    def test_the_rounding_is_the_last_choice(self):
        for rounding in range(9):
            choices = [1, 0, 0, 0, 0, 0, 0, rounding]
            block = self.encode(ONE, "P", choices, level=4, value=104)[2]
            self.assertEqual(block, ("inter", [(0, 0, (0, 0), None)], 8, flat_levels(1 if rounding > 4 else 0)))

    def test_chroma(self):
        # Before the kind of the block: delta, and for each plane that there is no item.
        choices = [1, 0, 0, 0, 1, 0, 2, 3]
        block = self.encode(COLOUR, "P", choices, level=1)[2]
        self.assertEqual(block[:3], ("intra", [2], 3))
        block = self.encode(COLOUR, "P", [1, 0, 0, 0, 0, 1], level=1)[2]
        self.assertEqual(block, ("inter", [(0, 0, (0, 0), None)] * 4, 8, zeros(1, 8)))


class Sequences(unittest.TestCase):
    def settings(self):
        sizes = itertools.cycle([(12, 20), (8, 24), (17, 9), (24, 16)])
        for chroma, deblock, offset in itertools.product((0, 1, 2), (False, True), (False, True)):
            fmt = Format(*next(sizes), depth=8 + 2 * chroma, chroma=chroma)
            for rows, slots in ((1, 4), (2, 2), (32, 1)):
                yield Settings(fmt, slots=slots, rows=rows, deblock=deblock, offset=offset, layers=2)

    def headers_of(self, chance, settings, **more):
        numbers = chance.sample(range(6), 5)
        return [random_header(chance, settings, number, kind, **more) for number, kind in zip(numbers, "IPBPB")]

    def check(self, settings, frames, headers, choices):
        before = copy.deepcopy((frames, choices))
        pictures = encode_frames(settings, frames, headers, choices)
        self.assertEqual((frames, choices), before)
        self.assertEqual([header for header, _ in pictures], headers)
        self.assertIsNone(check_pictures(settings, pictures))
        rebuilt = rebuild_pictures(settings, pictures)
        self.assertEqual(decode_stream(write_stream(settings, pictures)), rebuilt)
        return pictures, rebuilt

    def test_random_choices(self):
        chance = random.Random(90)
        for settings in self.settings():
            make = chance.choice((random_frame, lambda chance, fmt: moving_frame(chance, fmt, chance.randrange(5))))
            frames = [make(chance, settings.fmt) for _ in range(6)]
            headers = self.headers_of(chance, settings)
            choices = [chance.choice((chance.randrange(40), chance.randint(0, 2 ** 32))) for _ in range(chance.randrange(2000))]
            pictures, _ = self.check(settings, frames, headers, choices)
            self.assertEqual(pictures, plain_encode(settings, frames, headers, choices)[0])

    def test_all_choices_the_same(self):
        chance = random.Random(91)
        settings = Settings(Format(20, 12, chroma=1), slots=2, rows=1, deblock=True, offset=True)
        frames = [moving_frame(chance, settings.fmt, time) for time in range(6)]
        for number in (0, 1, 2, 3, 7, 29, 2 ** 32 - 1, 2 ** 32):
            for level in (0, 9):
                headers = self.headers_of(chance, settings, level=level)
                pictures, _ = self.check(settings, frames, headers, [number] * 3000)
                self.assertEqual(pictures, plain_encode(settings, frames, headers, [number] * 3000)[0])

    def test_level_0_returns_the_frames(self):
        chance = random.Random(92)
        for settings in self.settings():
            frames = [random_frame(chance, settings.fmt) for _ in range(6)]
            edge = chance.choice((0, 6)) if settings.deblock else 0
            headers = self.headers_of(chance, settings, level=0, shown=True, edge=edge)
            choices = [chance.randint(0, 2 ** 32) for _ in range(2000)]
            _, rebuilt = self.check(settings, frames, headers, choices)
            numbers = sorted([header.number for header in headers])
            self.assertEqual(rebuilt, [(number, frames[number], True) for number in numbers])

    def test_no_headers(self):
        for frames in ([], [flat_frame(ONE.fmt)], [[[[-1]]]]):
            self.assertEqual(encode_frames(ONE, frames, [], [1, 2, 3]), [])

    def test_lists_are_new(self):
        frames = [flat_frame(ONE.fmt, 7)]
        headers = [PictureHeader(ONE, number=0)]
        first = encode_frames(ONE, frames, headers, [5, 6])
        kept = copy.deepcopy(first[0][1])
        second = encode_frames(ONE, frames, headers, [5, 6])
        first[0][1][0][2][0][3][0][0][0] = 999
        first[0][1][0][1].append(0)
        self.assertEqual(second[0][1], kept)
        found = encode_frames(Settings(Format(16, 8)), [flat_frame(Format(16, 8), 7)], headers, [])
        lists = []

        def collect(part):
            if isinstance(part, list):
                lists.append(id(part))
            for item in part if isinstance(part, (list, tuple)) else ():
                collect(item)

        collect([slices for _, slices in found])
        self.assertEqual(len(set(lists)), len(lists))

    def test_vectors_at_the_ends_of_their_range(self):
        # Each quarter moves 16 further than the one above it to the left; 64 of them are a diagonal.
        settings = Settings(Format(256, 256), rows=32)
        frames = [flat_frame(settings.fmt, 50)] * 2
        headers = [PictureHeader(settings, number=0, kind="P", refs=[0])]
        for right, down, end in ((31, 32, (1023, -1023)), (32, 31, (-1023, 1023))):
            ((_, ((_, _, blocks),)),) = encode_frames(settings, frames, headers, ([0, 1] + [0, right, down] * 4 + [0, 0]) * 1024)
            self.assertEqual(blocks[-1][1][3], (0, 0, end, None))
            (x, y) = blocks[-1][1][0][2]
            self.assertEqual((abs(x), abs(y), x + y), (63 * 16, 63 * 16, 0))
            self.assertEqual([block[1][0][2][0] for block in blocks[::33]], [(2 * k + 1) * (16 if x > 0 else -16) for k in range(32)])


class Refusals(unittest.TestCase):
    def setUp(self):
        self.frames = [flat_frame(ONE.fmt, value) for value in (1, 2, 3)]
        self.headers = [PictureHeader(ONE, number=number) for number in (2, 0)]

    def refused(self, error, frames, headers, choices=()):
        before = copy.deepcopy((frames, choices))
        with self.assertRaises(error):
            encode_frames(ONE, frames, headers, list(choices))
        self.assertEqual((frames, choices), before)

    def test_headers(self):
        twice = self.headers + [PictureHeader(ONE, number=2, level=9)]
        self.refused(BadData, self.frames, twice)
        for number in (3, 4, 999):
            self.refused(BadData, self.frames, self.headers + [PictureHeader(ONE, number=number)])
            self.refused(BadData, self.frames, [PictureHeader(ONE, number=number)] + self.headers)
        self.refused(BadData, [], self.headers[1:])

    def test_choices(self):
        for number in (-1, 2 ** 32 + 1):
            for choices in ([number], [0, number, 0], [0] * 100 + [number]):
                self.refused(OutOfRange, self.frames, self.headers, choices)
            self.refused(OutOfRange, self.frames, [], [number])

    def test_frames(self):
        wrong = [
            [], [[[1] * 8] * 8] * 3, [[[1] * 8] * 7], [[[1] * 7] * 8], [[[1] * 8] * 7 + [[1] * 9]],
            [[[256] * 8] * 8], [[[0] * 8] * 7 + [[0] * 7 + [-1]]], [[[1] * 8] * 9],
        ]
        for frame in wrong:
            for place in (0, 2):
                frames = list(self.frames)
                frames[place] = frame
                self.refused(BadFrame, frames, self.headers)
                self.refused(BadFrame, frames, self.headers, [5, 2 ** 32])
            # A frame that is not used may be anything.
            frames = [self.frames[0], frame, self.frames[2], frame]
            self.assertEqual(len(encode_frames(ONE, frames, self.headers, [])), 2)

    def test_the_order(self):
        twice = self.headers * 2
        far = self.headers + [PictureHeader(ONE, number=7)]
        bad = [[], [], []]
        for headers in (twice, far):
            for frames, choices in ((bad, []), (self.frames, [-1]), (bad, [2 ** 32 + 1])):
                self.refused(BadData, frames, headers, choices)
        self.refused(OutOfRange, bad, self.headers, [-1])
        self.refused(BadFrame, bad, self.headers, [1])


if __name__ == "__main__":
    unittest.main()
