"""Point 66: the size of pictures, the buffer, and control."""

import copy
import itertools
import random
import unittest

from tests.plain_frames import moving_frame, random_frame
from tests.plain_stream import plain_units, random_header, random_slices
from thaumatrope.decoder import decode_stream
from thaumatrope.encoder import rebuild_pictures, write_stream
from thaumatrope.errors import BadData, BadFrame, CapacityTooSmall, CodecError, OutOfRange
from thaumatrope.frames import Format, flat_frame
from thaumatrope.headers import PictureHeader, Settings
from thaumatrope.rate import Bucket, control_frames, picture_size
from thaumatrope.search import search_frames
from thaumatrope.units import write_units

ONE = Settings(Format(8, 8), slots=2)


def at_level(settings, header, level):
    """The header with another level."""
    values = {name: getattr(header, name) for name in (
        "number", "kind", "store", "refs", "weight", "layer", "shown", "edge",
    )}
    return PictureHeader(settings, level=level, **values)


class Sizes(unittest.TestCase):
    def test_by_hand(self):
        header = PictureHeader(ONE, number=3, kind="P", refs=[0])
        # The picture: 00100 010 1 00 0 00 1 1 and the stop, so 3 octets; the slice: 1 + 1 octets and the code of a
        # decision, 3 octets. Each unit has 5 more.
        self.assertEqual(picture_size(ONE, header, [(0, [None], [("skip",)])]), 8 + 10)
        # With the delta -31 the header of the slice takes 3 octets: 00100 1 00000111111 and the stop.
        self.assertEqual(picture_size(ONE, header, [(-31, [None], [("skip",)])]), 8 + 12)

    def test_escaped_octets_count(self):
        settings = Settings(Format(8, 8))
        for header in (PictureHeader(settings, number=0), PictureHeader(settings, number=999, kind="P", refs=[0])):
            sizes = set()
            for level in range(1, 3000, 3):
                block = ("intra", [0], 0, [[[level] + [0] * 63]])
                if header.kind == "P":
                    block = ("inter", [(0, 0, (0, 0), None)], 8, block[3])
                slices = [(0, [None], [block])]
                units = plain_units(settings, [(header, slices)])[1:]
                size = picture_size(settings, header, slices)
                self.assertEqual(size, len(write_units(units)))
                sizes.add(size - sum(len(payload) + 5 for _, payload in units))
            self.assertLessEqual(sizes, {0, 1})

    def test_each_kind_and_several_slices(self):
        chance = random.Random(110)
        for chroma, rows, offset in itertools.product((0, 1, 2), (1, 2, 32), (False, True)):
            settings = Settings(Format(12, 20, chroma=chroma), slots=3, rows=rows, offset=offset, deblock=offset)
            for kind in "IPB":
                header = random_header(chance, settings, chance.randrange(1000), kind)
                slices = random_slices(chance, settings, header)
                before = copy.deepcopy(slices)
                size = picture_size(settings, header, slices)
                self.assertEqual(slices, before)
                self.assertEqual(size, len(write_units(plain_units(settings, [(header, slices)])[1:])))
                # The stream has a sequence unit and an end unit besides.
                rest = len(write_stream(settings, []))
                self.assertEqual(size + rest, len(write_stream(settings, [(header, slices)])))

    def test_a_slice_that_is_too_long(self):
        settings = Settings(Format(160, 160), rows=32)
        levels = [524287 if k % 3 else -524287 for k in range(64)]
        slices = [(0, [None], [("intra", [0], 0, [[list(levels)]]) for _ in range(400)])]
        with self.assertRaises(OutOfRange):
            picture_size(settings, PictureHeader(settings, number=0), slices)


class Buckets(unittest.TestCase):
    def test_by_hand(self):
        bucket = Bucket(rate=3, capacity=10)
        self.assertEqual((bucket.rate, bucket.capacity, bucket.fullness), (3, 10, 0))
        self.assertEqual(bucket.enter(8), 8)
        self.assertEqual(bucket.fullness, 5)
        self.assertIs(bucket.fits(6), False)
        self.assertIs(bucket.fits(5), True)
        self.assertEqual(bucket.fullness, 5)
        self.assertEqual(bucket.enter(5), 10)
        self.assertEqual(bucket.fullness, 7)
        self.assertEqual(bucket.enter(0), 7)
        self.assertEqual(bucket.enter(0), 4)
        self.assertEqual(bucket.enter(0), 4 - 3)
        self.assertEqual(bucket.fullness, 0)
        self.assertEqual(bucket.enter(2), 2)
        self.assertEqual(bucket.fullness, 0)
        self.assertEqual((bucket.rate, bucket.capacity), (3, 10))

    def test_a_size_that_does_not_fit(self):
        bucket = Bucket(rate=3, capacity=10)
        bucket.enter(8)
        for size in (6, 7, 10 ** 9):
            self.assertFalse(bucket.fits(size))
            with self.assertRaises(CapacityTooSmall):
                bucket.enter(size)
            self.assertEqual((bucket.rate, bucket.capacity, bucket.fullness), (3, 10, 5))
        with self.assertRaises(CodecError):
            bucket.enter(6)
        self.assertEqual(bucket.enter(5), 10)

    def test_zeros(self):
        bucket = Bucket(rate=0, capacity=0)
        self.assertEqual((bucket.rate, bucket.capacity, bucket.fullness), (0, 0, 0))
        self.assertTrue(bucket.fits(0))
        self.assertFalse(bucket.fits(1))
        self.assertEqual(bucket.enter(0), 0)
        bucket = Bucket(rate=0, capacity=3)
        self.assertEqual([bucket.enter(1), bucket.enter(1), bucket.enter(1)], [1, 2, 3])
        self.assertFalse(bucket.fits(1))
        bucket = Bucket(rate=5, capacity=0)
        self.assertFalse(bucket.fits(1))
        self.assertEqual(bucket.enter(0), 0)
        self.assertEqual(bucket.fullness, 0)
        bucket = Bucket(rate=100, capacity=10)
        self.assertEqual([bucket.enter(10), bucket.fullness], [10, 0])

    def test_negative_numbers(self):
        for rate, capacity in ((-1, 0), (0, -1), (-1, -1), (-10 ** 9, 5), (5, -10 ** 9)):
            with self.assertRaises(OutOfRange):
                Bucket(rate=rate, capacity=capacity)


class Control(unittest.TestCase):
    def check(self, settings, frames, headers, weight, rate, capacity):
        """The levels that control accepts."""
        before = copy.deepcopy(frames)
        result = control_frames(settings, frames, headers, weight=weight, rate=rate, capacity=capacity)
        self.assertEqual(frames, before)
        self.assertIsInstance(result, tuple)
        pictures, trace = result
        levels = [header.level for header, _ in pictures]
        self.assertEqual([header for header, _ in pictures],
                         [at_level(settings, header, level) for header, level in zip(headers, levels)])
        # Searching with the accepted headers gives the same pictures.
        accepted = [header for header, _ in pictures]
        self.assertEqual(pictures, search_frames(settings, frames, accepted, weight=weight))
        fullness = 0
        for place, ((header, slices), row) in enumerate(zip(pictures, trace)):
            size = picture_size(settings, header, slices)
            self.assertEqual(row, (header.level, size, fullness + size))
            self.assertLessEqual(fullness + size, capacity)
            for level in range(headers[place].level, header.level):
                tried = accepted[:place] + [at_level(settings, headers[place], level)]
                kept, made = search_frames(settings, frames, tried, weight=weight)[place]
                self.assertGreater(fullness + picture_size(settings, kept, made), capacity)
            fullness = max(0, fullness + size - rate)
        self.assertEqual(len(trace), len(headers))
        self.assertEqual(len(pictures), len(headers))
        stream = write_stream(settings, pictures)
        self.assertEqual(decode_stream(stream), rebuild_pictures(settings, pictures))
        return levels

    def test_sequences(self):
        chance = random.Random(111)
        greater = 0
        for chroma, rows, filters in ((0, 1, True), (1, 32, False), (1, 1, True), (2, 2, False)):
            fmt = Format(16, 20, depth=8 + chroma, chroma=chroma)
            settings = Settings(fmt, slots=3, rows=rows, deblock=filters, offset=filters, layers=2)
            frames = [moving_frame(chance, fmt, time) for time in range(4)]
            headers = [random_header(chance, settings, number, kind, level=chance.randrange(4), store=[0, 2])
                       for number, kind in zip((0, 3, 1, 2), "IPBP")]
            free = self.check(settings, frames, headers, 5, 0, 10 ** 9)
            self.assertEqual(free, [header.level for header in headers])
            most = max(picture_size(settings, *picture) for picture in search_frames(settings, frames, headers, weight=5))
            for rate, capacity in ((most // 2, most), (most // 3, most * 2 // 3)):
                levels = self.check(settings, frames, headers, 5, rate, capacity)
                greater += sum(a > b for a, b in zip(levels, free))
        self.assertGreater(greater, 6)

    def test_the_level_31(self):
        frames = [random_frame(random.Random(112), ONE.fmt)]
        header = PictureHeader(ONE, number=0, level=31)
        self.assertEqual(self.check(ONE, frames, [header], 0, 0, 10 ** 6), [31])
        ((_, slices),), ((_, size, fullness),) = control_frames(ONE, frames, [header], rate=1, capacity=10 ** 6)
        self.assertEqual(fullness, size)
        self.assertEqual(self.check(ONE, frames, [header], 0, 0, size), [31])
        with self.assertRaises(CapacityTooSmall):
            control_frames(ONE, frames, [header], rate=0, capacity=size - 1)
        # All levels up to the last one are tried.
        self.assertEqual(search_frames(ONE, frames, [header])[0][1], slices)
        sizes = []
        for level in range(32):
            ((kept, made),) = search_frames(ONE, frames, [at_level(ONE, header, level)])
            sizes.append(picture_size(ONE, kept, made))
        first = min(level for level in range(32) if sizes[level] <= size)
        self.assertEqual(self.check(ONE, frames, [PictureHeader(ONE, number=0)], 0, 0, size), [first])
        with self.assertRaises(CapacityTooSmall):
            control_frames(ONE, frames, [PictureHeader(ONE, number=0)], rate=10 ** 6, capacity=min(sizes) - 1)

    def test_a_later_picture_that_does_not_fit(self):
        frames = [random_frame(random.Random(113), ONE.fmt) for _ in range(2)]
        headers = [PictureHeader(ONE, number=number, level=20) for number in (1, 0)]
        _, ((_, size, _), (_, other, full)) = control_frames(ONE, frames, headers, rate=0, capacity=10 ** 6)
        self.assertEqual(full, size + other)
        with self.assertRaises(CapacityTooSmall):
            control_frames(ONE, frames, headers, rate=0, capacity=size + 9)
        _, trace = control_frames(ONE, frames, headers, rate=size, capacity=max(size, other))
        self.assertEqual(trace, [(20, size, size), (20, other, other)])
        _, trace = control_frames(ONE, frames, headers, rate=size - 2, capacity=other + 2 + size)
        self.assertEqual(trace, [(20, size, size), (20, other, other + 2)])

    def test_the_weight(self):
        frames = [flat_frame(ONE.fmt, 101), flat_frame(ONE.fmt, 115)]
        headers = [PictureHeader(ONE, number=0, level=4, store=[0]), PictureHeader(ONE, number=1, level=4, kind="P", refs=[0])]
        names = []
        for weight in (0, 1, 10 ** 9):
            pictures, _ = control_frames(ONE, frames, headers, weight=weight, rate=0, capacity=1000)
            names.append(pictures[1][1][0][2][0][0])
        self.assertEqual(names, ["inter", "intra", "skip"])
        pictures, _ = control_frames(ONE, frames, headers, rate=0, capacity=1000)
        self.assertEqual(pictures[1][1][0][2][0][0], "inter")

    def test_no_headers(self):
        self.assertEqual(control_frames(ONE, [], [], rate=0, capacity=0), ([], []))


class Refusals(unittest.TestCase):
    def setUp(self):
        self.frames = [flat_frame(ONE.fmt, value) for value in (1, 2, 3)]
        self.headers = [PictureHeader(ONE, number=number) for number in (2, 0)]

    def refused(self, error, frames, headers, **more):
        values = {"weight": 0, "rate": 0, "capacity": 10 ** 6}
        values.update(more)
        before = copy.deepcopy(frames)
        with self.assertRaises(error):
            control_frames(ONE, frames, headers, **values)
        self.assertEqual(frames, before)

    def test_each(self):
        self.refused(OutOfRange, self.frames, self.headers, weight=-1)
        self.refused(BadData, self.frames, self.headers * 2)
        self.refused(BadData, self.frames, self.headers + [PictureHeader(ONE, number=3)])
        self.refused(OutOfRange, self.frames, self.headers, rate=-1)
        self.refused(OutOfRange, self.frames, self.headers, capacity=-1)
        self.refused(OutOfRange, [], [], capacity=-1)
        self.refused(BadFrame, [[], self.frames[1], self.frames[2]], self.headers)
        self.refused(BadFrame, self.frames[:2] + [[[[256] * 8] * 8]], self.headers)
        self.refused(CapacityTooSmall, self.frames, self.headers, capacity=0)
        self.assertEqual(len(control_frames(ONE, [self.frames[0], [], self.frames[2]], self.headers, rate=0, capacity=999)[0]), 2)

    def test_the_order(self):
        bad = [[], [], []]
        self.refused(OutOfRange, bad, self.headers * 2, weight=-1, capacity=-1)
        self.refused(BadData, bad, self.headers * 2, rate=-1)
        self.refused(BadData, bad, self.headers * 2, capacity=-1)
        self.refused(OutOfRange, bad, self.headers, rate=-1)
        self.refused(OutOfRange, bad, self.headers, capacity=-1)
        self.refused(BadFrame, bad, self.headers, capacity=0)
        # Picture by picture: the first header is that of the last frame.
        self.refused(CapacityTooSmall, [[], [], self.frames[2]], self.headers, capacity=5)
        self.refused(BadFrame, [self.frames[0], [], []], self.headers, capacity=5)
        self.refused(BadFrame, [[], [], self.frames[2]], self.headers)

    def test_a_slice_that_is_too_long(self):
        settings = Settings(Format(120, 120, depth=12, chroma=2), rows=32)
        frames = [random_frame(random.Random(114), settings.fmt)]
        with self.assertRaises(OutOfRange):
            control_frames(settings, frames, [PictureHeader(settings, number=0)], rate=0, capacity=0)
        # It is raised for the picture, not only for the stream as a whole.
        with self.assertRaises(BadFrame):
            control_frames(settings, [[]] + frames, [PictureHeader(settings, number=0), PictureHeader(settings, number=1)],
                           rate=0, capacity=0)


if __name__ == "__main__":
    unittest.main()
