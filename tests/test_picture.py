"""Points 53 to 55: pictures as a whole."""

import copy
import itertools
import random
import unittest

from tests.plain_filters import plain_deblock, plain_offsets
from tests.plain_picture import plain_picture, plain_references
from tests.plain_planes import flat_planes, random_planes
from tests.plain_stream import random_header, random_slices
from tests.plain_syntax import zeros
from thaumatrope.frames import Format
from thaumatrope.headers import PictureHeader, Settings
from thaumatrope.picture import middle_planes, rebuild_picture, references_of

FORMATS = [Format(20, 21, chroma=0), Format(17, 19, depth=10, chroma=1), Format(12, 20, depth=9, chroma=2)]


def ids_in(planes):
    """The identities of all lists in planes."""
    return [id(planes)] + [id(plane) for plane in planes] + [id(row) for plane in planes for row in plane]


def calm_slices(chance, settings, header):
    """Slices of which the levels change few samples much, so that edges are smooth."""
    slices = []
    for delta, offsets, blocks in random_slices(chance, settings, header, 9):
        for block in blocks:
            for part in [part for plane in block[-1] for part in plane] if block[0] != "skip" else []:
                part[:] = [chance.choice((0, 1, -1, 2)) if place < 2 else 0 for place in range(len(part))]
        slices.append((chance.randint(-2, 2), offsets, blocks))
    return slices


class Middle(unittest.TestCase):
    def test_each_format(self):
        for width, height, depth, chroma in itertools.product((1, 8, 9, 17), (1, 16, 20), (8, 9, 12), (0, 1, 2)):
            fmt = Format(width, height, depth=depth, chroma=chroma)
            planes = middle_planes(fmt)
            self.assertEqual(planes, flat_planes(fmt, 2 ** (depth - 1)))
            self.assertEqual(len(set(ids_in(planes))), len(ids_in(planes)))

    def test_by_hand(self):
        self.assertEqual(middle_planes(Format(3, 9, chroma=1)), [[[128] * 8] * 16, [[128] * 4] * 8, [[128] * 4] * 8])
        self.assertEqual(middle_planes(Format(9, 1, depth=12, chroma=2)), [[[2048] * 16] * 8] * 3)
        self.assertEqual(middle_planes(Format(8, 8, depth=9)), [[[256] * 8] * 8])

    def test_each_result_is_new(self):
        first = middle_planes(FORMATS[1])
        first[0][0][0] = 7
        self.assertEqual(middle_planes(FORMATS[1]), flat_planes(FORMATS[1], 512))


class References(unittest.TestCase):
    def check(self, settings, header, slots):
        before = copy.deepcopy(slots)
        found = references_of(settings, header, slots)
        self.assertEqual(found, plain_references(settings, header, slots))
        self.assertEqual(slots, before)
        lists = [number for planes in found for number in ids_in(planes)]
        self.assertEqual(len(set(lists)), len(lists))
        self.assertFalse(set(lists) & {number for planes in slots if planes for number in ids_in(planes)})
        return found

    def test_the_refs_of_each_kind(self):
        chance = random.Random(60)
        for fmt in FORMATS:
            settings = Settings(fmt, slots=4)
            slots = [random_planes(chance, fmt), None, random_planes(chance, fmt), None]
            middle = flat_planes(fmt, fmt.middle)
            contents = [slots[0], middle, slots[2], middle]
            header = PictureHeader(settings, number=0)
            self.assertEqual(self.check(settings, header, slots), [])
            for ref in range(4):
                header = PictureHeader(settings, number=0, kind="P", refs=[ref])
                self.assertEqual(self.check(settings, header, slots), [contents[ref]])
            for refs in itertools.product(range(4), repeat=2):
                for kind in "PB":
                    header = PictureHeader(settings, number=0, kind=kind, refs=list(refs))
                    self.assertEqual(self.check(settings, header, slots), [contents[ref] for ref in refs])

    def test_one_slot(self):
        settings = Settings(FORMATS[2])
        for slots in ([None], [flat_planes(FORMATS[2], 3)]):
            header = PictureHeader(settings, number=0, kind="B", refs=[0, 0])
            found = self.check(settings, header, slots)
            self.assertEqual(found[0], slots[0] or flat_planes(FORMATS[2], 256))
            self.assertEqual(found[0], found[1])

    def test_later_changes(self):
        settings = Settings(FORMATS[0], slots=2)
        slots = [flat_planes(FORMATS[0], 3), None]
        found = references_of(settings, PictureHeader(settings, number=0, kind="P", refs=[0, 1]), slots)
        found[0][0][0][0] = found[1][0][0][0] = 99
        self.assertEqual(slots, [flat_planes(FORMATS[0], 3), None])


class Pictures(unittest.TestCase):
    def check(self, settings, header, slices, slots, previous=None):
        before = copy.deepcopy((slices, slots, previous))
        found = rebuild_picture(settings, header, slices, slots, previous=previous)
        self.assertEqual((slices, slots, previous), before)
        self.assertEqual(found, plain_picture(settings, header, slices, slots, previous))
        lists = ids_in(found)
        self.assertEqual(len(set(lists)), len(lists))
        for planes in [previous] + slots:
            self.assertFalse(planes and set(lists) & set(ids_in(planes)))
        if previous is None:
            self.assertEqual(rebuild_picture(settings, header, slices, slots), found)
        return found

    def settings_of(self, fmt):
        for rows, (deblock, offset) in itertools.product((1, 2, 32), itertools.product((False, True), repeat=2)):
            yield Settings(fmt, slots=3, rows=rows, deblock=deblock, offset=offset)

    def each_case(self, make_slices, seed):
        chance = random.Random(seed)
        for fmt in FORMATS:
            for settings in self.settings_of(fmt):
                for kind in "IPB":
                    header = random_header(chance, settings, 5, kind, level=chance.randrange(1, 32))
                    slices = dict(enumerate(make_slices(chance, settings, header)))
                    slots = [random_planes(chance, fmt), None, random_planes(chance, fmt)]
                    yield chance, settings, header, slices, slots

    def test_random_data(self):
        for chance, settings, header, slices, slots in self.each_case(random_slices, 61):
            self.check(settings, header, slices, slots, chance.choice((None, random_planes(chance, settings.fmt))))

    def test_calm_data(self):
        changed = 0
        for chance, settings, header, slices, slots in self.each_case(calm_slices, 62):
            slots = [flat_planes(settings.fmt, 100), None, flat_planes(settings.fmt, 103)]
            found = self.check(settings, header, slices, slots)
            unfiltered = Settings(settings.fmt, slots=3, rows=settings.rows)
            plain = rebuild_picture(unfiltered, header, {
                index: (delta, [None] * settings.fmt.planes, blocks)
                for index, (delta, _, blocks) in slices.items()
            }, slots)
            changed += found != plain
            if not settings.deblock and not settings.offset:
                self.assertEqual(found, plain)
        self.assertGreater(changed, 30)

    def test_missing_slices(self):
        for chance, settings, header, slices, slots in self.each_case(calm_slices, 63):
            base = [[[100 + (x + y) // 9 for x in range(len(row))] for y, row in enumerate(plane)]
                    for plane in flat_planes(settings.fmt, 0)]
            for missing in range(len(slices) + 1):
                gone = chance.sample(sorted(slices), missing)
                left = {index: slices[index] for index in slices if index not in gone}
                self.check(settings, header, left, slots, base)
                self.check(settings, header, left, slots)

    def test_no_slices(self):
        chance = random.Random(64)
        for fmt in FORMATS:
            for settings in self.settings_of(fmt):
                header = random_header(chance, settings, 5, "P", level=31)
                previous = random_planes(chance, fmt)
                slots = [random_planes(chance, fmt)] * 3
                self.assertEqual(self.check(settings, header, {}, slots, previous), previous)
                self.assertEqual(self.check(settings, header, {}, slots), flat_planes(fmt, fmt.middle))

    def test_the_order_of_the_slices_is_free(self):
        for chance, settings, header, slices, slots in self.each_case(calm_slices, 65):
            turned = {index: slices[index] for index in sorted(slices, reverse=True)}
            self.assertEqual(list(turned), list(slices)[::-1])
            found = rebuild_picture(settings, header, slices, slots)
            self.assertEqual(rebuild_picture(settings, header, turned, slots), found)


class ByHand(unittest.TestCase):
    """Pictures of one column of two blocks, in two slices."""

    def settings_of(self, **more):
        return Settings(Format(8, 16), rows=1, **more)

    def test_concealed_rows(self):
        settings = Settings(Format(8, 16, chroma=1), rows=1)
        header = PictureHeader(settings, number=0)
        levels = [[[5] + [0] * 63], [[-5] + [0] * 15], [[9] + [0] * 15]]
        data = 0, [None] * 3, [("intra", [0], 0, levels)]
        previous = [[[y] * 8 for y in range(16)], [[y] * 4 for y in range(8)], [[40 + y] * 4 for y in range(8)]]
        found = rebuild_picture(settings, header, {1: data}, [None], previous=previous)
        self.assertEqual(found[0], previous[0][:8] + [[133] * 8] * 8)
        self.assertEqual(found[1], previous[1][:4] + [[123] * 4] * 4)
        self.assertEqual(found[2], previous[2][:4] + [[137] * 4] * 4)
        found = rebuild_picture(settings, header, {0: data}, [None], previous=previous)
        self.assertEqual(found[0], [[133] * 8] * 8 + previous[0][8:])
        found = rebuild_picture(settings, header, {0: data}, [None])
        self.assertEqual(found[0], [[133] * 8] * 8 + [[128] * 8] * 8)

    def test_a_present_slice_is_not_predicted_from_a_concealed_one(self):
        settings = self.settings_of()
        data = 0, [None], [("intra", [1], 0, zeros(0, 8))]
        previous = [[[50] * 8] * 16]
        found = rebuild_picture(settings, PictureHeader(settings, number=0), {1: data}, [None], previous=previous)
        self.assertEqual(found, [[[50] * 8] * 8 + [[128] * 8] * 8])

    def test_the_edge_of_a_missing_slice(self):
        settings = self.settings_of(deblock=True)
        present = 0, [None], [("intra", [0], 0, zeros(0, 8))]
        previous = [[[131] * 8] * 16]
        # The mean of the levels 4 and 0 is 2, with the step 4 and the limit 2: 3 is less than 4, and
        # (3 * 3 - 3 + 4) >> 3 is 1. Towards the other side it is (-9 + 3 + 4) >> 3, which is -1.
        header = PictureHeader(settings, number=0, level=4)
        found = rebuild_picture(settings, header, {0: present}, [None], previous=previous)
        self.assertEqual(found, [[[128] * 8] * 7 + [[129] * 8, [130] * 8] + [[131] * 8] * 7])
        found = rebuild_picture(settings, header, {1: present}, [None], previous=previous)
        self.assertEqual(found, [[[131] * 8] * 7 + [[130] * 8, [129] * 8] + [[128] * 8] * 7])
        # With the level 3 the mean is 1, the step 2 and the limit 1: 3 is not less than 2.
        header = PictureHeader(settings, number=0, level=3)
        found = rebuild_picture(settings, header, {0: present}, [None], previous=previous)
        self.assertEqual(found, [[[128] * 8] * 8 + [[131] * 8] * 8])

    def test_the_level_of_the_filter_contains_delta(self):
        settings = self.settings_of(deblock=True)
        header = PictureHeader(settings, number=0, level=3)
        previous = [[[131] * 8] * 16]
        for delta, changes in ((0, False), (1, True), (-3, False), (31, True)):
            present = delta, [None], [("intra", [0], 0, zeros(0, 8))]
            found = rebuild_picture(settings, header, {0: present}, [None], previous=previous)
            self.assertEqual(found[0][8] != [131] * 8, changes)

    def test_missing_slices_count_as_skipped(self):
        settings = self.settings_of(deblock=True)
        header = PictureHeader(settings, number=0, kind="P", refs=[0], level=31)
        previous = [[[131] * 8] * 16]
        slots = [[[[128] * 8] * 16]]
        still = 0, [None], [("inter", [(0, 0, (0, 0), None)], 8, zeros(0, 8))]
        skipped = 0, [None], [("skip",)]
        flat = [[128] * 8] * 8 + [[131] * 8] * 8
        self.assertEqual(rebuild_picture(settings, header, {0: skipped}, slots, previous=previous), [flat])
        self.assertNotEqual(rebuild_picture(settings, header, {0: still}, slots, previous=previous), [flat])
        for slices in ({0: still, 1: skipped}, {0: skipped, 1: still}, {0: still, 1: still}):
            slots = [[[[128] * 8] * 8 + [[131] * 8] * 8]]
            self.assertNotEqual(rebuild_picture(settings, header, slices, slots), [flat])
        self.assertEqual(rebuild_picture(settings, header, {0: skipped, 1: skipped}, slots), [flat])

    def test_the_offset_filter_follows_the_deblocking_filter(self):
        settings = self.settings_of(deblock=True, offset=True)
        header = PictureHeader(settings, number=0, level=4, kind="P", refs=[0])
        slots = [[[[100] * 8 for _ in range(8)] + [[103] * 8 for _ in range(8)]]]
        blocks = [("inter", [(0, 0, (0, 0), None)], 8, zeros(0, 8))]
        slices = {0: (0, [(1, [0, 5, -7, 0])], blocks), 1: (0, [None], blocks)}
        planes = plain_deblock(settings.fmt, header, slots[0], [[(4, False)], [(4, False)]])
        self.assertEqual([row[0] for row in planes[0]][6:10], [100, 101, 102, 103])
        expected = plain_offsets(settings, planes, [slices[0][1], None])
        # Row 6 is less than row 7, and row 7 is between its neighbours.
        self.assertEqual([row[0] for row in expected[0]][5:10], [100, 105, 101, 102, 103])
        self.assertEqual(rebuild_picture(settings, header, slices, slots), expected)
        # A missing slice has no offsets.
        found = rebuild_picture(settings, header, {1: slices[1]}, slots, previous=slots[0])
        self.assertEqual([row[0] for row in found[0]][5:10], [100, 100, 101, 102, 103])

    def test_samples_outside_of_the_frame_are_coded_too(self):
        # The previous picture is taken in coded size.
        settings = Settings(Format(3, 3))
        previous = random_planes(random.Random(66), settings.fmt)
        header = PictureHeader(settings, number=0)
        self.assertEqual(rebuild_picture(settings, header, {}, [None], previous=previous), previous)


if __name__ == "__main__":
    unittest.main()
