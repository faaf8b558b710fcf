"""Points 59 and 60: pictures of a sequence, their stream, and rebuilding them."""

import copy
import itertools
import random
import unittest

from tests.plain_stream import (
    plain_decode, plain_stream, plain_units, random_header, random_pictures, random_slices, slice_payload,
)
from tests.plain_syntax import zeros
from thaumatrope.decoder import decode_stream
from thaumatrope.encoder import check_pictures, rebuild_pictures, write_stream
from thaumatrope.errors import BadData, OutOfRange
from thaumatrope.frames import Format, crop_planes
from thaumatrope.headers import PictureHeader, Settings, write_picture, write_settings
from thaumatrope.picture import rebuild_picture
from thaumatrope.units import read_units


def all_settings():
    """Settings for each chroma kind, with each filter and without, of one slice and of several."""
    sizes = itertools.cycle([(12, 20), (8, 24), (17, 9)])
    for chroma, deblock, offset in itertools.product((0, 1, 2), (False, True), (False, True)):
        fmt = Format(*next(sizes), depth=8 + 2 * chroma, chroma=chroma)
        for rows, slots in ((1, 4), (2, 1), (32, 2)):
            yield Settings(fmt, slots=slots, rows=rows, deblock=deblock, offset=offset, layers=3)


def flat_data(value=0):
    """The data of a slice of one block, 128 plus a value at level 0."""
    return 0, [None], [("intra", [0], 0, [[[value] + [0] * 63]])]


class Checks(unittest.TestCase):
    def setUp(self):
        chance = random.Random(80)
        self.settings = Settings(Format(12, 20, chroma=1), slots=2, rows=2, offset=True)
        self.pictures = random_pictures(chance, self.settings, 3)

    def refused(self, pictures):
        before = copy.deepcopy([slices for _, slices in pictures])
        for function in (check_pictures, write_stream, rebuild_pictures):
            with self.assertRaises(BadData):
                function(self.settings, pictures)
        self.assertEqual([slices for _, slices in pictures], before)

    def test_valid_pictures(self):
        chance = random.Random(81)
        self.assertIsNone(check_pictures(self.settings, []))
        for settings in all_settings():
            pictures = random_pictures(chance, settings, 3)
            before = copy.deepcopy([slices for _, slices in pictures])
            self.assertIsNone(check_pictures(settings, pictures))
            self.assertEqual([slices for _, slices in pictures], before)

    def test_two_headers_with_the_same_number(self):
        for first, second in ((0, 1), (1, 2), (0, 2)):
            pictures = list(self.pictures)
            header = random_header(random.Random(82), self.settings, pictures[first][0].number, "I")
            pictures[second] = header, random_slices(random.Random(83), self.settings, header)
            self.refused(pictures)
        self.refused([self.pictures[0], self.pictures[0]])

    def test_the_number_of_slices(self):
        for place, (header, slices) in enumerate(self.pictures):
            for wrong in ([], slices[:1], slices[1:], slices + slices[:1], slices * 2):
                pictures = list(self.pictures)
                pictures[place] = header, wrong
                self.refused(pictures)

    def test_slices_in_another_order(self):
        # The second slice has one row of blocks, the first one has two.
        for place, (header, slices) in enumerate(self.pictures):
            pictures = list(self.pictures)
            pictures[place] = header, slices[::-1]
            self.refused(pictures)

    def test_faulty_data_at_any_place(self):
        for place, (header, slices) in enumerate(self.pictures):
            for index, (delta, offsets, blocks) in enumerate(slices):
                wrong = [
                    (32, offsets, blocks), (-32, offsets, blocks), (delta, offsets[1:], blocks),
                    (delta, [(4, [0] * 4)] + offsets[1:], blocks), (delta, [(0, [0] * 3)] + offsets[1:], blocks),
                    (delta, [(0, [0, 0, 0, 8])] + offsets[1:], blocks), (delta, offsets, blocks[1:]),
                    (delta, offsets, blocks + blocks[:1]), (delta, offsets), (delta, offsets, blocks, 0), (),
                    (delta, offsets, blocks[:-1] + [("intra", [8], 0, zeros(1, 8))]),
                    (delta, offsets, blocks[:-1] + [("intra", [0], 0, zeros(2, 8))]),
                    (delta, offsets, blocks[:-1] + [("other",)]), (delta, offsets, [()] + blocks[1:]),
                ]
                if header.kind == "I":
                    wrong.append((delta, offsets, [("skip",)] + blocks[1:]))
                for data in wrong:
                    pictures = list(self.pictures)
                    pictures[place] = header, slices[:index] + [data] + slices[index + 1:]
                    self.refused(pictures)

    def test_offsets_without_the_switch(self):
        settings = Settings(Format(8, 8))
        data = 0, [(0, [0] * 4)], [("intra", [0], 0, zeros(0, 8))]
        with self.assertRaises(BadData):
            check_pictures(settings, [(PictureHeader(settings, number=0), [data])])


class Writing(unittest.TestCase):
    def test_unit_by_unit(self):
        settings = Settings(Format(8, 16), rows=1, slots=2)
        one = PictureHeader(settings, number=300, store=[1])
        other = PictureHeader(settings, number=2, kind="P", refs=[1], level=3)
        first, second = flat_data(5), (-3, [None], [("intra", [2], 0, [[[0, 7] + [0] * 62]])])
        skipped = 31, [None], [("skip",)]
        stream = write_stream(settings, [(one, [first, second]), (other, [second, skipped])])
        units = [(kind, payload) for _, kind, payload in read_units(stream)]
        self.assertEqual(units, [
            (1, write_settings(settings)),
            (2, write_picture(settings, one)),
            (3, slice_payload(settings, one, 0, first)),
            (3, slice_payload(settings, one, 1, second)),
            (2, write_picture(settings, other)),
            (3, slice_payload(settings, other, 0, second)),
            (3, slice_payload(settings, other, 1, skipped)),
            (4, []),
        ])
        self.assertEqual(stream[:4], [0, 0, 1, 1])
        self.assertEqual(stream[-5:], [0, 0, 1, 4, 128])

    def test_a_slice_by_hand(self):
        settings = Settings(Format(8, 8))
        header = PictureHeader(settings, number=3, kind="P", refs=[0])
        stream = write_stream(settings, [(header, [(-2, [None], [("skip",)])])])
        # 3 is 00100, 0 is 1 and -2 is 00101. The decision 1 has the code 2**31 - 2**11, which ends with zeros.
        self.assertEqual(stream[-15:], [0, 0, 1, 3, 2, 0b00100100, 0b10110000, 127, 255, 248, 128, 0, 0, 1, 4, 128][1:])
        self.assertEqual(decode_stream(stream), [(3, [[[128] * 8] * 8], True)])

    def test_no_pictures(self):
        for settings in all_settings():
            stream = write_stream(settings, [])
            self.assertEqual([(kind, payload) for _, kind, payload in read_units(stream)],
                             [(1, write_settings(settings)), (4, [])])
            self.assertEqual(decode_stream(stream), [])
            self.assertEqual(rebuild_pictures(settings, []), [])

    def test_random_pictures(self):
        chance = random.Random(84)
        for settings in all_settings():
            pictures = random_pictures(chance, settings, 3)
            before = copy.deepcopy([slices for _, slices in pictures])
            stream = write_stream(settings, pictures)
            self.assertEqual(stream, plain_stream(settings, pictures))
            self.assertEqual([slices for _, slices in pictures], before)
            again = write_stream(settings, pictures)
            again.append(1)
            self.assertEqual(write_stream(settings, pictures), stream)

    def test_reading_returns_what_was_written(self):
        chance = random.Random(85)
        settings = Settings(Format(24, 24, chroma=2), slots=3, rows=1, offset=True)
        pictures = random_pictures(chance, settings, 3)
        stream = write_stream(settings, pictures)
        units = [(kind, payload) for _, kind, payload in read_units(stream)]
        self.assertEqual(units, plain_units(settings, pictures) + [(4, [])])


def great_data(count):
    """The data of a slice of 400 blocks with so many great levels."""
    blocks = []
    for place in range(400):
        here = max(0, min(64, count - 64 * place))
        levels = [524287 if (place + k) % 3 else -524287 for k in range(here)] + [0] * (64 - here)
        blocks.append(("intra", [0], 0, [[levels]]))
    return 0, [None], blocks


class LongSlices(unittest.TestCase):
    def setUp(self):
        self.settings = Settings(Format(160, 160), rows=32)
        self.header = PictureHeader(self.settings, number=0)

    def length(self, count):
        return len(slice_payload(self.settings, self.header, 0, great_data(count)))

    def test_the_greatest_length(self):
        least, most = 10000, 64 * 400
        self.assertLess(self.length(least), 65536)
        self.assertGreater(self.length(most), 65536)
        while most - least > 1:
            middle = (least + most) // 2
            if self.length(middle) <= 65536:
                least = middle
            else:
                most = middle
        self.assertGreater(self.length(least), 65520)
        stream = write_stream(self.settings, [(self.header, [great_data(least)])])
        self.assertEqual(len(list(read_units(stream))), 4)
        pictures = [(self.header, [great_data(most)])]
        with self.assertRaises(OutOfRange):
            write_stream(self.settings, pictures)
        # Only the stream has the limit.
        self.assertIsNone(check_pictures(self.settings, pictures))
        self.assertEqual(len(rebuild_pictures(self.settings, pictures)), 1)

    def test_wrong_data_come_first(self):
        great = self.header, [great_data(64 * 400)]
        for wrong in ((PictureHeader(self.settings, number=1), []), great):
            for pictures in ([great, wrong], [wrong, great]):
                with self.assertRaises(BadData):
                    write_stream(self.settings, pictures)

    def test_a_later_slice(self):
        small = PictureHeader(self.settings, number=1), [great_data(5)]
        for pictures in ([small, (self.header, [great_data(64 * 400)])], [(self.header, [great_data(64 * 400)]), small]):
            with self.assertRaises(OutOfRange):
                write_stream(self.settings, pictures)


class Rebuilding(unittest.TestCase):
    def check(self, settings, pictures):
        before = copy.deepcopy([slices for _, slices in pictures])
        found = rebuild_pictures(settings, pictures)
        self.assertEqual([slices for _, slices in pictures], before)
        stream = write_stream(settings, pictures)
        self.assertEqual(decode_stream(stream), found)
        self.assertEqual(plain_decode(stream), found)
        return found

    def test_random_pictures(self):
        chance = random.Random(86)
        for settings in all_settings():
            pictures = random_pictures(chance, settings, 4)
            found = self.check(settings, pictures)
            self.assertEqual([number for number, _, _ in found],
                             sorted([header.number for header, _ in pictures if header.shown]))
            self.assertTrue(all([complete for _, _, complete in found]))

    def test_by_hand(self):
        settings = Settings(Format(3, 2), slots=2)
        first = PictureHeader(settings, number=8, store=[1])
        hidden = PictureHeader(settings, number=7, store=[0], shown=False)
        third = PictureHeader(settings, number=6, kind="B", refs=[0, 1], weight=4)
        pictures = [
            (first, [flat_data(40)]), (hidden, [flat_data(-20)]), (third, [(0, [None], [("skip",)])]),
            (PictureHeader(settings, number=9, kind="P", refs=[0]), [(0, [None], [("skip",)])]),
        ]
        # A quarter of 168 and three quarters of 108.
        expected = [(6, 123), (8, 168), (9, 108)]
        found = self.check(settings, pictures)
        self.assertEqual(found, [(number, [[[value] * 3] * 2], True) for number, value in expected])

    def test_pictures_refer_to_rebuilt_pictures_behind_the_filters(self):
        settings = Settings(Format(16, 8), deblock=True)
        header = PictureHeader(settings, number=0, level=20, store=[0], edge=6)
        blocks = [("intra", [0], 0, [[[0] * 64]]), ("intra", [0], 0, [[[1] + [0] * 63]])]
        skipped = 0, [None], [("skip",)] * 2
        pictures = [(header, [(0, [None], blocks)])]
        pictures.append((PictureHeader(settings, number=1, kind="P", refs=[0]), [skipped]))
        found = self.check(settings, pictures)
        planes = rebuild_picture(settings, header, {0: (0, [None], blocks)}, [None])
        self.assertEqual(found[0][1], crop_planes(settings.fmt, planes))
        self.assertEqual(found[1][1], found[0][1])
        self.assertGreater(len(set(found[0][1][0][0])), 2)

    def test_results_are_new(self):
        settings = Settings(Format(8, 8))
        pictures = [(PictureHeader(settings, number=number), [flat_data(number)]) for number in (0, 1)]
        found = rebuild_pictures(settings, pictures)
        rows = [id(row) for _, frame, _ in found for plane in frame for row in plane]
        self.assertEqual(len(set(rows)), 16)
        found[0][1][0][0][0] = 99
        self.assertEqual(rebuild_pictures(settings, pictures)[0][1], [[[128] * 8] * 8])


if __name__ == "__main__":
    unittest.main()
