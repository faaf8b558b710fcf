"""Points 63 to 65: searching for blocks."""

import copy
import itertools
import random
import unittest

from tests.plain_encode import plain_price, plain_search
from tests.plain_frames import moving_frame, random_frame
from tests.plain_stream import random_header
from tests.plain_syntax import random_block, zeros
from thaumatrope.decoder import decode_stream
from thaumatrope.encoder import check_pictures, rebuild_pictures, write_stream
from thaumatrope.errors import BadData, BadFrame, OutOfRange
from thaumatrope.frames import Format, flat_frame
from thaumatrope.headers import PictureHeader, Settings
from thaumatrope.search import block_price, near_vectors, search_frames

ONE = Settings(Format(8, 8), slots=2)


class Prices(unittest.TestCase):
    def test_by_hand(self):
        self.assertEqual(block_price(("intra", [0], 0, [[[2] + [0] * 63]])), 6)
        self.assertEqual(block_price(("skip",)), 0)
        self.assertEqual(block_price(("intra", [0], 0, zeros(0, 8))), 1)
        self.assertEqual(block_price(("intra", [1, 2, 3, 4], 3, zeros(2, 4))), 1)
        self.assertEqual(block_price(("inter", [(0, 0, (5, 6), None)], 4, zeros(1, 4))), 3)
        self.assertEqual(block_price(("inter", [(2, 0, (5, 6), (7, 8))] * 4, 8, zeros(0, 8))), 3)

    def test_each_size_of_a_level(self):
        sizes = {0: 0, 1: 3, 2: 5, 3: 5, 4: 7, 7: 7, 8: 9, 255: 17, 256: 19, 262144: 39, 524287: 39, 524288: 41}
        for size, price in sizes.items():
            for level in (size, -size):
                for place in (0, 1, 63):
                    levels = zeros(0, 8)
                    levels[0][0][place] = level
                    self.assertEqual(block_price(("intra", [0], 0, levels)), 1 + price)
                    self.assertEqual(block_price(("inter", [(0, 0, (0, 0), None)], 8, levels)), 3 + price)

    def test_levels_of_all_planes(self):
        levels = [[[1, -1] + [0] * 14, [0] * 16, [2] * 16, [0] * 15 + [-3]], [[4] + [0] * 15], [[0] * 16]]
        # Two of 3, sixteen of 5, one of 5 and one of 7.
        self.assertEqual(block_price(("intra", [0] * 4, 0, levels)), 1 + 6 + 80 + 5 + 7)
        self.assertEqual(block_price(("inter", [(0, 0, (0, 0), None)], 4, levels)), 3 + 6 + 80 + 5 + 7)

    def test_random_blocks(self):
        chance = random.Random(100)
        for chroma in (0, 1, 2):
            settings = Settings(Format(8, 8, chroma=chroma), slots=2)
            header = PictureHeader(settings, number=0, kind="B", refs=[0, 1])
            for _ in range(50):
                block = random_block(chance, settings.fmt, header)
                before = copy.deepcopy(block)
                self.assertEqual(block_price(block), plain_price(block))
                self.assertEqual(block, before)


class Vectors(unittest.TestCase):
    def test_by_hand(self):
        self.assertEqual(near_vectors((1, -1022)), [(1, -1022), (-3, -1022), (5, -1022), (1, -1023), (1, -1018)])
        self.assertEqual(near_vectors((0, 0)), [(0, 0), (-4, 0), (4, 0), (0, -4), (0, 4)])
        self.assertEqual(near_vectors((7, -9)), [(7, -9), (3, -9), (11, -9), (7, -13), (7, -5)])

    def test_the_ends_of_the_range(self):
        self.assertEqual(near_vectors((1023, -1023)),
                         [(1023, -1023), (1019, -1023), (1023, -1023), (1023, -1023), (1023, -1019)])
        self.assertEqual(near_vectors((-1023, 1023)),
                         [(-1023, 1023), (-1023, 1023), (-1019, 1023), (-1023, 1019), (-1023, 1023)])
        for edge in range(1015, 1024):
            found = near_vectors((edge, -edge))
            self.assertEqual(found[2], (min(1023, edge + 4), -edge))
            self.assertEqual(found[3], (edge, max(-1023, -edge - 4)))

    def test_the_list_is_new(self):
        first = near_vectors((1, 2))
        first.append(3)
        self.assertEqual(len(near_vectors((1, 2))), 5)


class ByHand(unittest.TestCase):
    """Pictures of one block."""

    def search(self, frames, headers, weight=0, settings=ONE):
        before = copy.deepcopy(frames)
        pictures = search_frames(settings, frames, headers, weight=weight)
        self.assertEqual(frames, before)
        self.assertEqual([header for header, _ in pictures], headers)
        self.assertEqual(pictures, plain_search(settings, frames, headers, weight))
        self.assertEqual([(delta, offsets) for _, slices in pictures for delta, offsets, _ in slices],
                         [(0, [None] * settings.fmt.planes) for _, slices in pictures for _ in slices])
        return [block for _, slices in pictures for _, _, blocks in slices for block in blocks]

    def flat(self, value):
        return flat_frame(ONE.fmt, value)

    def test_an_intra_picture(self):
        # All modes predict 128: the first one is taken, whatever the weight is.
        header = PictureHeader(ONE, number=0, level=4)
        for weight in (0, 1, 10 ** 12):
            self.assertEqual(self.search([self.flat(150)], [header], weight), [("intra", [0], 0, [[[2] + [0] * 63]])])
        self.assertEqual(search_frames(ONE, [self.flat(150)], [header]), search_frames(ONE, [self.flat(150)], [header], weight=0))

    def test_each_kind_has_its_cost(self):
        # The picture before is 101: 128 - 27, and the step is 9. The next one, 105, misses 4.
        headers = [
            PictureHeader(ONE, number=0, level=4, store=[0]),
            PictureHeader(ONE, number=1, level=4, kind="P", refs=[0]),
        ]
        frames = [self.flat(101), self.flat(105)]
        # Skipped: 16 * 64. Inter: the same, and the price 3. Intra: -23 becomes -27, error 16 * 64, price 1 + 5.
        for weight in (0, 1, 1000):
            self.assertEqual(self.search(frames, headers, weight)[1], ("skip",))
        # 106 misses 5: that becomes 9 with the error 16 * 64 and the price 6; skipped it is 25 * 64.
        # Intra: -22 becomes -18, with the error 16 * 64 and the price 6: it comes behind inter.
        frames[1] = self.flat(106)
        inter = "inter", [(0, 0, (0, 0), None)], 8, [[[1] + [0] * 63]]
        self.assertEqual(self.search(frames, headers, 0)[1], inter)
        # 1024 + 6 * 95 is below 1600, and 1024 + 6 * 96 is equal to it: the skipped block is first.
        self.assertEqual(self.search(frames, headers, 95)[1], inter)
        self.assertEqual(self.search(frames, headers, 96)[1], ("skip",))
        self.assertEqual(self.search(frames, headers, 97)[1], ("skip",))
        # 115 misses 14: that becomes 18, with the error 16 * 64 and the price 3 + 5. Intra: -13 becomes -9, with
        # the error 16 * 64 and the price 1 + 3. At the same error the price decides.
        frames[1] = self.flat(115)
        self.assertEqual(self.search(frames, headers, 0)[1], ("inter", [(0, 0, (0, 0), None)], 8, [[[2] + [0] * 63]]))
        self.assertEqual(self.search(frames, headers, 1)[1], ("intra", [0], 0, [[[-1] + [0] * 63]]))
        self.assertEqual(self.search(frames, headers, 10 ** 9)[1], ("skip",))
        # Without a weight it is 0.
        self.assertEqual(search_frames(ONE, frames, headers), search_frames(ONE, frames, headers, weight=0))

    def test_vectors_in_order(self):
        # A frame that ascends to the right: 4 more for each column. One column further to the right or left is 4 quarters.
        settings = Settings(Format(16, 8), slots=2)
        ramp = [[[100 + 4 * x for x in range(16)] for _ in range(8)]]
        headers = [
            PictureHeader(settings, number=0, store=[0, 1]),
            PictureHeader(settings, number=1, level=31, kind="P", refs=[0, 1]),
        ]
        for change, vector in ((-1, (-4, 0)), (1, (4, 0))):
            moved = [[[100 + 4 * max(0, min(15, x + change)) for x in range(16)] for _ in range(8)]]
            blocks = self.search([ramp, moved], headers, 0, settings)
            self.assertEqual(blocks[2:], [("inter", [(0, 0, vector, None)], 8, zeros(0, 8))] * 2)
        down = [[[100 + 9 * y for _ in range(16)] for y in range(8)]]
        for change, vector in ((-1, (0, -4)), (1, (0, 4))):
            moved = [[[100 + 9 * max(0, min(7, y + change)) for _ in range(16)] for y in range(8)]]
            blocks = self.search([down, moved], headers, 0, settings)
            self.assertEqual(blocks[2:], [("inter", [(0, 0, vector, None)], 8, zeros(0, 8))] * 2)

    def test_the_second_ref(self):
        headers = [
            PictureHeader(ONE, number=0, store=[0]), PictureHeader(ONE, number=1, store=[1]),
            PictureHeader(ONE, number=2, kind="P", refs=[0, 1], level=31),
            PictureHeader(ONE, number=3, kind="P", refs=[1, 0], level=31),
            PictureHeader(ONE, number=4, kind="P", refs=[1, 1], level=31),
        ]
        frames = [self.flat(20), self.flat(60), self.flat(60), self.flat(60), self.flat(60)]
        blocks = self.search(frames, headers)[2:]
        self.assertEqual(blocks, [("inter", [(0, 1, (0, 0), None)], 8, zeros(0, 8)), ("skip",), ("skip",)])

    def test_directions(self):
        headers = [
            PictureHeader(ONE, number=0, store=[0]), PictureHeader(ONE, number=1, store=[1]),
            PictureHeader(ONE, number=2, kind="B", refs=[0, 1], level=31, weight=4),
        ]
        for value, motion in ((20, (0, 0, (0, 0), None)), (60, (1, 0, None, (0, 0))), (30, None)):
            blocks = self.search([self.flat(20), self.flat(60), self.flat(value)], headers, 1)
            expected = ("inter", [motion], 8, zeros(0, 8)) if motion else ("skip",)
            self.assertEqual(blocks[2], expected)
        # Without levels, direction 2 has the samples of the skipped block, and a price.
        self.assertEqual(self.search([self.flat(20), self.flat(60), self.flat(31)], headers)[2], ("skip",))
        # The mean is 40. At the level 4 exactly 9 is added to it; from 20, 60 and 128 an error of 2 or more is left.
        headers[2] = PictureHeader(ONE, number=2, kind="B", refs=[0, 1], level=4)
        block = self.search([self.flat(20), self.flat(60), self.flat(49)], headers, 1)[2]
        self.assertEqual(block, ("inter", [(2, 0, (0, 0), (0, 0))], 8, [[[1] + [0] * 63]]))

    def test_the_chroma_mode_is_that_of_the_mode(self):
        settings = Settings(Format(16, 16, chroma=2), rows=2)
        # Each row, or each column, has a sample of its own: vertical or horizontal prediction finds it.
        across = [[[40 * (x % 5) for x in range(16)] for _ in range(16)]] * 3
        down = [[[40 * (y % 5)] * 16 for y in range(16)]] * 3
        header = PictureHeader(settings, number=0)
        for frame, mode, place in ((across, 1, 2), (down, 2, 1)):
            block = self.search([frame], [header], 1, settings)[place]
            self.assertEqual(block, ("intra", [mode], mode, zeros(2, 8)))
        # The modes from 4 on have the chroma mode 0, and without chroma all have it.
        chance = random.Random(101)
        for chroma in (0, 1, 2):
            settings = Settings(Format(32, 32, chroma=chroma))
            frames = [random_frame(chance, settings.fmt)]
            blocks = self.search(frames, [PictureHeader(settings, number=0, level=9)], 0, settings)
            pairs = {(modes[0], chroma_mode) for _, modes, chroma_mode, _ in blocks}
            self.assertLessEqual(pairs, {(mode, mode if chroma and mode < 4 else 0) for mode in range(8)})
            self.assertGreater(len(pairs), 4)

    def test_the_error_is_that_before_the_filters(self):
        settings = Settings(Format(16, 8), deblock=True)
        header = PictureHeader(settings, number=0, level=20, edge=6)
        frame = [[[128] * 8 + [200] * 8 for _ in range(8)]]
        blocks = self.search([frame], [header], 0, settings)
        self.assertEqual(blocks[1][3], [[[1] + [0] * 63]])


class Sequences(unittest.TestCase):
    def settings(self):
        sizes = itertools.cycle([(12, 20), (8, 24), (17, 9), (24, 16)])
        for chroma, filters in itertools.product((0, 1, 2), (False, True)):
            fmt = Format(*next(sizes), depth=8 + 2 * chroma, chroma=chroma)
            for rows, slots in ((1, 4), (32, 2)):
                yield Settings(fmt, slots=slots, rows=rows, deblock=filters, offset=filters, layers=2)

    def headers_of(self, chance, settings, **more):
        numbers = chance.sample(range(5), 5)
        return [random_header(chance, settings, number, kind, **more) for number, kind in zip(numbers, "IPBPB")]

    def check(self, settings, frames, headers, weight, costs=None):
        before = copy.deepcopy(frames)
        pictures = search_frames(settings, frames, headers, weight=weight)
        self.assertEqual(frames, before)
        self.assertEqual(pictures, plain_search(settings, frames, headers, weight, costs))
        self.assertIsNone(check_pictures(settings, pictures))
        self.assertEqual(decode_stream(write_stream(settings, pictures)), rebuild_pictures(settings, pictures))
        return [block[0] for _, slices in pictures for _, _, blocks in slices for block in blocks]

    def test_frames_that_move(self):
        chance = random.Random(102)
        names, costs = [], []
        for settings in self.settings():
            frames = [moving_frame(chance, settings.fmt, time) for time in range(5)]
            headers = self.headers_of(chance, settings, store=list(range(settings.slots)))
            names += self.check(settings, frames, headers, chance.choice((0, 1, 30, 400)), costs)
        self.assertEqual(set(names), {"skip", "intra", "inter"})
        # There are blocks with several candidates of the least cost.
        self.assertTrue([True for block in costs if block.count(min(block)) > 1 and block[0] > min(block)])

    def test_frames_of_any_samples(self):
        chance = random.Random(103)
        for settings in list(self.settings())[::3]:
            frames = [random_frame(chance, settings.fmt) for _ in range(5)]
            for weight in (0, 7, 10 ** 9):
                self.check(settings, frames, self.headers_of(chance, settings)[:3], weight)

    def test_level_0_and_weight_0_return_the_frames(self):
        chance = random.Random(104)
        for settings in list(self.settings())[::2]:
            frames = [random_frame(chance, settings.fmt) for _ in range(5)]
            headers = self.headers_of(chance, settings, level=0, shown=True)
            rebuilt = rebuild_pictures(settings, search_frames(settings, frames, headers))
            self.assertEqual(rebuilt, [(number, frames[number], True) for number in range(5)])

    def test_no_headers(self):
        self.assertEqual(search_frames(ONE, [], []), [])
        self.assertEqual(search_frames(ONE, [[]], [], weight=9), [])


class Refusals(unittest.TestCase):
    def setUp(self):
        self.frames = [flat_frame(ONE.fmt, value) for value in (1, 2, 3)]
        self.headers = [PictureHeader(ONE, number=number) for number in (2, 0)]

    def refused(self, error, frames, headers, weight=0):
        before = copy.deepcopy(frames)
        with self.assertRaises(error):
            search_frames(ONE, frames, headers, weight=weight)
        self.assertEqual(frames, before)

    def test_a_negative_weight(self):
        for weight in (-1, -10 ** 9):
            self.refused(OutOfRange, self.frames, self.headers, weight)
            self.refused(OutOfRange, [], [], weight)

    def test_headers(self):
        self.refused(BadData, self.frames, self.headers * 2)
        self.refused(BadData, self.frames, self.headers + [PictureHeader(ONE, number=3)])
        self.refused(BadData, [], self.headers)

    def test_frames(self):
        for place in (0, 2):
            for wrong in ([], [[[1] * 8] * 7], [[[256] * 8] * 8], [[[1] * 7] * 8], [[[-1] * 8] * 8], [[[1] * 8] * 8] * 3):
                frames = list(self.frames)
                frames[place] = wrong
                self.refused(BadFrame, frames, self.headers)
        self.assertEqual(len(search_frames(ONE, [self.frames[0], [], self.frames[2]], self.headers)), 2)

    def test_the_order(self):
        bad = [[], [], []]
        self.refused(OutOfRange, bad, self.headers * 2, -1)
        self.refused(BadData, bad, self.headers * 2)
        self.refused(OutOfRange, bad, self.headers, -1)
        self.refused(BadFrame, bad, self.headers)


if __name__ == "__main__":
    unittest.main()
