"""Points 4, 5, 6 and (for the numbers of blocks) 18."""

import copy
import unittest

from thaumatrope.errors import BadFormat, BadFrame, OutOfRange
from thaumatrope.frames import (
    Format, check_frame, copy_planes, crop_planes, flat_frame, pad_frame, squared_error,
)


def ramp(fmt, sizes):
    """Planes of the given sizes with samples that differ from their neighbours."""
    return [
        [[(7 * x + 31 * y + 3 * plane) % (fmt.top + 1) for x in range(width)] for y in range(height)]
        for plane, (width, height) in enumerate(sizes)
    ]


def frame_of(fmt):
    return ramp(fmt, [fmt.size(plane) for plane in range(fmt.planes)])


def coded_of(fmt):
    return ramp(fmt, [fmt.coded_size(plane) for plane in range(fmt.planes)])


def shapes_with_one_fault(planes):
    """Copies of planes with a plane, a row or a sample too few or too many."""
    yield "no planes", []
    yield "a plane too few", copy.deepcopy(planes[:-1])
    yield "a plane too many", copy.deepcopy(planes + planes[-1:])
    for index in range(len(planes)):
        less = copy.deepcopy(planes)
        del less[index][0]
        yield f"a row too few in plane {index}", less
        more = copy.deepcopy(planes)
        more[index].append(list(more[index][0]))
        yield f"a row too many in plane {index}", more
        for y in range(len(planes[index])):
            short = copy.deepcopy(planes)
            short[index][y].pop()
            yield f"a sample too few in row {y} of plane {index}", short
            long = copy.deepcopy(planes)
            long[index][y].append(0)
            yield f"a sample too many in row {y} of plane {index}", long


def samples_with_one_fault(fmt, planes):
    """Copies of planes with one sample below 0 or above the greatest one, at any place."""
    for index, plane in enumerate(planes):
        for y, row in enumerate(plane):
            for x in range(len(row)):
                for sample in (-1, fmt.top + 1):
                    wrong = copy.deepcopy(planes)
                    wrong[index][y][x] = sample
                    yield f"{sample} in plane {index}, row {y}, column {x}", wrong


class Formats(unittest.TestCase):
    def test_attributes_and_defaults(self):
        fmt = Format(3, 200)
        self.assertEqual((fmt.width, fmt.height, fmt.depth, fmt.chroma), (3, 200, 8, 0))
        fmt = Format(height=4, width=5, chroma=1, depth=11)
        self.assertEqual((fmt.width, fmt.height, fmt.depth, fmt.chroma), (5, 4, 11, 1))

    def test_numbers_at_both_ends_of_their_ranges(self):
        for width in (1, 256):
            for height in (1, 256):
                for depth in (8, 12):
                    for chroma in (0, 1, 2):
                        fmt = Format(width, height, depth=depth, chroma=chroma)
                        found = (fmt.width, fmt.height, fmt.depth, fmt.chroma)
                        self.assertEqual(found, (width, height, depth, chroma))

    def test_numbers_beyond_their_ranges(self):
        for width in (-1, 0, 257, 10 ** 30):
            with self.assertRaises(BadFormat):
                Format(width, 8)
        for height in (-1, 0, 257, 10 ** 30):
            with self.assertRaises(BadFormat):
                Format(8, height)
        for depth in (-8, 0, 7, 13):
            with self.assertRaises(BadFormat):
                Format(8, 8, depth=depth)
        for chroma in (-1, 3):
            with self.assertRaises(BadFormat):
                Format(8, 8, chroma=chroma)

    def test_depth_and_chroma_are_passed_by_keyword(self):
        with self.assertRaises(TypeError):
            Format(8, 8, 8, 0)

    def test_equality(self):
        fmt = Format(16, 24, depth=9, chroma=1)
        self.assertTrue(fmt == Format(16, 24, depth=9, chroma=1))
        self.assertFalse(fmt != Format(16, 24, depth=9, chroma=1))
        others = [
            Format(15, 24, depth=9, chroma=1), Format(16, 25, depth=9, chroma=1),
            Format(16, 24, depth=8, chroma=1), Format(16, 24, depth=9, chroma=2),
            Format(24, 16, depth=9, chroma=1), "16x24:9:1", None,
        ]
        for other in others:
            self.assertFalse(fmt == other)
            self.assertTrue(fmt != other)

    def test_number_of_planes(self):
        self.assertEqual([Format(8, 8, chroma=chroma).planes for chroma in (0, 1, 2)], [1, 3, 3])

    def test_middle_and_greatest_sample(self):
        formats = [Format(8, 8, depth=depth) for depth in (8, 9, 10, 11, 12)]
        self.assertEqual([fmt.middle for fmt in formats], [128, 256, 512, 1024, 2048])
        self.assertEqual([fmt.top for fmt in formats], [255, 511, 1023, 2047, 4095])


class Texts(unittest.TestCase):
    def test_written_forms(self):
        self.assertEqual(Format(16, 8, chroma=1).text(), "16x8:8:1")
        self.assertEqual(Format(17, 5, chroma=1).text(), "17x5:8:1")
        self.assertEqual(Format(1, 256, depth=12).text(), "1x256:12:0")

    def test_parsing_undoes_writing(self):
        for width in (1, 9, 10, 100, 256):
            for height in (1, 7, 99, 256):
                for depth in (8, 9, 10, 12):
                    for chroma in (0, 1, 2):
                        fmt = Format(width, height, depth=depth, chroma=chroma)
                        parsed = Format.parse(fmt.text())
                        self.assertIsInstance(parsed, Format)
                        self.assertEqual(parsed, fmt)

    def test_texts_that_are_no_written_form(self):
        texts = [
            "", " ", "x", ":", "x::", "16", "16x8", "16x8:8", "16x8:8:1:", "16x8:8:1:0", ":16x8:8:1",
            "016x8:8:1", "16x08:8:1", "16x8:08:1", "16x8:8:01", "16x8:8:00",
            "+16x8:8:1", "16x+8:8:1", "16x8:+8:1", "16x8:8:+1", "-16x8:8:1", "16x8:8:-1", "16x8:8:-0",
            " 16x8:8:1", "16x8:8:1 ", "16 x8:8:1", "16x 8:8:1", "16x8: 8:1", "16x8:8 :1", "16x8:8: 1",
            "16x8:8:1\n", "\n16x8:8:1", "16x8\n:8:1", "16x8:8:1\t", "\t16x8:8:1",
            "16X8:8:1", "16:8:8:1", "16x8x8:1", "16x8:8x1", "16*8:8:1", "16x8;8;1", "16x8,8,1", "16x8 8 1",
            "16xx8:8:1", "16x8::8:1", "16x8:8::1", "x8:8:1", "16x:8:1", "16x8::1", "16x8:8:",
            "0x8:8:1", "16x0:8:1", "257x8:8:1", "16x257:8:1", "16x8:7:1", "16x8:13:1", "16x8:8:3",
            "1_6x8:8:1", "1e1x8:8:1", "16.0x8:8:1", "0x10x8:8:1", "axb:c:d", "1000x8:8:1",
            "9" * 5000 + "x8:8:1", "16x8:8:1" + "0" * 5000, "format 16x8:8:1",
        ]
        for text in texts:
            with self.subTest(text[:20]):
                with self.assertRaises(BadFormat):
                    Format.parse(text)


class Sizes(unittest.TestCase):
    def test_sizes_of_planes(self):
        expected = {
            (1, 1): ((1, 1), (1, 1)), (2, 2): ((2, 2), (1, 1)), (8, 8): ((8, 8), (4, 4)),
            (9, 16): ((9, 16), (5, 8)), (17, 5): ((17, 5), (9, 3)), (256, 255): ((256, 255), (128, 128)),
        }
        for (width, height), (luma, half) in expected.items():
            self.assertEqual(Format(width, height).size(0), luma)
            small = Format(width, height, chroma=1)
            self.assertEqual([small.size(plane) for plane in range(3)], [luma, half, half])
            full = Format(width, height, chroma=2)
            self.assertEqual([full.size(plane) for plane in range(3)], [luma, luma, luma])

    def test_coded_sizes_of_planes(self):
        expected = {
            (1, 1): ((8, 8), (4, 4)), (8, 8): ((8, 8), (4, 4)), (9, 16): ((16, 16), (8, 8)),
            (17, 5): ((24, 8), (12, 4)), (255, 249): ((256, 256), (128, 128)),
        }
        for (width, height), (luma, half) in expected.items():
            self.assertEqual(Format(width, height).coded_size(0), luma)
            small = Format(width, height, chroma=1)
            self.assertEqual([small.coded_size(plane) for plane in range(3)], [luma, half, half])
            full = Format(width, height, chroma=2)
            self.assertEqual([full.coded_size(plane) for plane in range(3)], [luma, luma, luma])

    def test_planes_that_do_not_exist(self):
        for chroma, planes in ((0, (-1, 1, 2)), (1, (-1, -3, 3)), (2, (-1, -3, 3))):
            fmt = Format(9, 9, chroma=chroma)
            for plane in planes:
                with self.assertRaises(OutOfRange):
                    fmt.size(plane)
                with self.assertRaises(OutOfRange):
                    fmt.coded_size(plane)

    def test_numbers_of_blocks(self):
        for chroma in (0, 1, 2):
            for (width, height), blocks in {
                (1, 8): (1, 1), (9, 7): (2, 1), (16, 17): (2, 3), (24, 1): (3, 1), (256, 249): (32, 32),
            }.items():
                self.assertEqual(Format(width, height, chroma=chroma).blocks(), blocks)


class Flat(unittest.TestCase):
    def test_samples_are_the_value(self):
        fmt = Format(3, 2, chroma=1)
        self.assertEqual(flat_frame(fmt, 9), [[[9, 9, 9], [9, 9, 9]], [[9, 9]], [[9, 9]]])
        self.assertEqual(flat_frame(Format(2, 1, chroma=2), 7), [[[7, 7]]] * 3)
        self.assertEqual(flat_frame(Format(1, 2), 5), [[[5], [5]]])

    def test_samples_are_the_middle(self):
        self.assertEqual(flat_frame(Format(2, 1)), [[[128, 128]]])
        self.assertEqual(flat_frame(Format(2, 1, depth=12), None), [[[2048, 2048]]])

    def test_least_and_greatest_sample(self):
        fmt = Format(1, 1, depth=10)
        self.assertEqual(flat_frame(fmt, 0), [[[0]]])
        self.assertEqual(flat_frame(fmt, 1023), [[[1023]]])

    def test_values_that_are_no_samples(self):
        for depth in (8, 9, 12):
            fmt = Format(4, 4, depth=depth)
            for value in (-1, 2 ** depth, 10 ** 9):
                with self.assertRaises(OutOfRange):
                    flat_frame(fmt, value)

    def test_no_list_occurs_twice(self):
        frame = flat_frame(Format(3, 3, chroma=2), 1)
        rows = [row for plane in frame for row in plane]
        self.assertEqual(len({id(row) for row in rows}), 9)
        self.assertEqual(len({id(plane) for plane in frame}), 3)


class Check(unittest.TestCase):
    def test_frames_of_the_format(self):
        for chroma in (0, 1, 2):
            for depth in (8, 12):
                fmt = Format(5, 3, depth=depth, chroma=chroma)
                for frame in (frame_of(fmt), flat_frame(fmt, 0), flat_frame(fmt, fmt.top)):
                    before = copy.deepcopy(frame)
                    self.assertIsNone(check_frame(fmt, frame))
                    self.assertEqual(frame, before)

    def test_wrong_shapes_and_samples(self):
        for chroma in (0, 1, 2):
            fmt = Format(5, 3, depth=9, chroma=chroma)
            faults = list(shapes_with_one_fault(frame_of(fmt)))
            faults += list(samples_with_one_fault(fmt, frame_of(fmt)))
            for name, frame in faults:
                with self.subTest(name):
                    with self.assertRaises(BadFrame):
                        check_frame(fmt, frame)

    def test_coded_planes_are_no_frame(self):
        fmt = Format(5, 3, chroma=1)
        with self.assertRaises(BadFrame):
            check_frame(fmt, coded_of(fmt))


class Padding(unittest.TestCase):
    def test_last_column_and_last_row_are_repeated(self):
        fmt = Format(3, 2, chroma=1)
        padded = pad_frame(fmt, [[[1, 2, 3], [4, 5, 6]], [[7, 8]], [[9, 10]]])
        above = [1, 2, 3, 3, 3, 3, 3, 3]
        below = [4, 5, 6, 6, 6, 6, 6, 6]
        self.assertEqual(padded[0], [above] + [below] * 7)
        self.assertEqual(padded[1], [[7, 8, 8, 8]] * 4)
        self.assertEqual(padded[2], [[9, 10, 10, 10]] * 4)

    def test_every_padded_sample_is_the_nearest_one(self):
        for size in ((1, 1), (9, 17), (15, 8), (8, 3)):
            for chroma in (0, 1, 2):
                fmt = Format(*size, chroma=chroma)
                frame = frame_of(fmt)
                padded = pad_frame(fmt, frame)
                self.assertEqual(len(padded), fmt.planes)
                for index, plane in enumerate(padded):
                    width, height = fmt.coded_size(index)
                    columns, rows = fmt.size(index)
                    self.assertEqual(plane, [
                        [frame[index][min(y, rows - 1)][min(x, columns - 1)] for x in range(width)]
                        for y in range(height)
                    ])

    def test_nothing_is_added_to_multiples_of_8(self):
        fmt = Format(16, 8, chroma=1)
        frame = frame_of(fmt)
        self.assertEqual(pad_frame(fmt, frame), frame)
        self.assertEqual(crop_planes(fmt, frame), frame)

    def test_cropping_undoes_padding(self):
        for size in ((1, 1), (9, 17), (16, 8), (7, 24)):
            for chroma in (0, 1, 2):
                fmt = Format(*size, depth=10, chroma=chroma)
                self.assertEqual(crop_planes(fmt, pad_frame(fmt, frame_of(fmt))), frame_of(fmt))

    def test_cropping_keeps_the_first_columns_and_rows(self):
        fmt = Format(9, 3, chroma=1)
        planes = coded_of(fmt)
        cropped = crop_planes(fmt, planes)
        self.assertEqual(cropped[0], [row[:9] for row in planes[0][:3]])
        self.assertEqual(cropped[1], [row[:5] for row in planes[1][:2]])
        self.assertEqual(cropped[2], [row[:5] for row in planes[2][:2]])

    def test_padding_refuses_what_is_no_frame(self):
        fmt = Format(5, 3, chroma=1)
        faults = list(shapes_with_one_fault(frame_of(fmt)))
        faults += list(samples_with_one_fault(fmt, frame_of(fmt)))
        for name, frame in faults + [("coded planes", coded_of(fmt))]:
            with self.subTest(name):
                with self.assertRaises(BadFrame):
                    pad_frame(fmt, frame)

    def test_cropping_refuses_wrong_shapes(self):
        fmt = Format(5, 3, chroma=1)
        faults = list(shapes_with_one_fault(coded_of(fmt)))
        for name, planes in faults + [("a frame", frame_of(fmt))]:
            with self.subTest(name):
                with self.assertRaises(BadFrame):
                    crop_planes(fmt, planes)

    def test_cropping_does_not_look_at_samples(self):
        fmt = Format(1, 1)
        planes = [[[-1] + [999] * 7] + [[-5] * 8 for _ in range(7)]]
        self.assertEqual(crop_planes(fmt, planes), [[[-1]]])


class NewLists(unittest.TestCase):
    def assert_new(self, made, given):
        old = {id(given)} | {id(plane) for plane in given} | {id(row) for plane in given for row in plane}
        lists = [made] + made + [row for plane in made for row in plane]
        self.assertEqual(len({id(part) for part in lists}), len(lists))
        self.assertFalse(old & {id(part) for part in lists})

    def test_results_are_new_and_arguments_do_not_change(self):
        for size in ((8, 16), (5, 3)):
            fmt = Format(*size, chroma=2)
            for function, planes in ((pad_frame, frame_of(fmt)), (crop_planes, coded_of(fmt))):
                before = copy.deepcopy(planes)
                self.assert_new(function(fmt, planes), planes)
                self.assertEqual(planes, before)

    def test_copies(self):
        for planes in ([], [[]], [[[1, 2], [3]], [[4]]], frame_of(Format(4, 4, chroma=1))):
            before = copy.deepcopy(planes)
            made = copy_planes(planes)
            self.assertEqual(made, before)
            self.assert_new(made, planes)
            self.assertEqual(planes, before)


class Errors(unittest.TestCase):
    def test_sum_of_squared_differences(self):
        fmt = Format(2, 2, chroma=1)
        first = [[[1, 2], [3, 4]], [[10]], [[20]]]
        second = [[[1, 4], [0, 4]], [[15]], [[13]]]
        self.assertEqual(squared_error(fmt, first, second), 4 + 9 + 25 + 49)
        self.assertEqual(squared_error(fmt, second, first), 4 + 9 + 25 + 49)
        self.assertEqual(first, [[[1, 2], [3, 4]], [[10]], [[20]]])
        self.assertEqual(second, [[[1, 4], [0, 4]], [[15]], [[13]]])

    def test_equal_and_opposite_frames(self):
        fmt = Format(3, 5, depth=12, chroma=2)
        self.assertEqual(squared_error(fmt, frame_of(fmt), frame_of(fmt)), 0)
        self.assertEqual(squared_error(fmt, flat_frame(fmt, 0), flat_frame(fmt, 4095)), 45 * 4095 ** 2)

    def test_either_frame_may_be_wrong(self):
        fmt = Format(3, 2, chroma=1)
        faults = list(shapes_with_one_fault(frame_of(fmt)))
        faults += list(samples_with_one_fault(fmt, frame_of(fmt)))
        for name, frame in faults:
            with self.subTest(name):
                with self.assertRaises(BadFrame):
                    squared_error(fmt, frame, frame_of(fmt))
                with self.assertRaises(BadFrame):
                    squared_error(fmt, frame_of(fmt), frame)


if __name__ == "__main__":
    unittest.main()
