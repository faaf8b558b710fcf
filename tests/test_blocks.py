"""Points 5, 18, 25 and 34: the places of blocks, areas and slices in planes."""

import unittest

from thaumatrope.blocks import block_areas, block_side, put_area, slice_span
from thaumatrope.errors import OutOfRange
from thaumatrope.frames import Format
from thaumatrope.headers import Settings


class Places(unittest.TestCase):
    def test_sides(self):
        for chroma, sides in ((0, [8]), (1, [8, 4, 4]), (2, [8, 8, 8])):
            fmt = Format(20, 20, chroma=chroma)
            self.assertEqual([block_side(fmt, plane) for plane in range(fmt.planes)], sides)

    def test_areas(self):
        fmt = Format(32, 32, chroma=1)
        self.assertEqual(block_areas(fmt, 0, 2, 1, 1), [(16, 8, 8)])
        self.assertEqual(block_areas(fmt, 0, 2, 1, 4), [(16, 8, 4), (20, 8, 4), (16, 12, 4), (20, 12, 4)])
        self.assertEqual(block_areas(fmt, 2, 2, 1, 1), [(8, 4, 4)])
        self.assertEqual(block_areas(fmt, 2, 2, 1, 4), [(8, 4, 2), (10, 4, 2), (8, 6, 2), (10, 6, 2)])
        fmt = Format(32, 32, chroma=2)
        self.assertEqual(block_areas(fmt, 1, 0, 3, 4), [(0, 24, 4), (4, 24, 4), (0, 28, 4), (4, 28, 4)])

    def test_spans_of_slices(self):
        for chroma, unit in ((1, 4), (2, 8)):
            settings = Settings(Format(20, 20, chroma=chroma), rows=2)
            self.assertEqual([slice_span(settings, index, 0) for index in (0, 1)], [(0, 16), (16, 24)])
            spans = [slice_span(settings, index, 1) for index in (0, 1)]
            self.assertEqual(spans, [(0, 2 * unit), (2 * unit, 3 * unit)])
            for index in (-1, 2):
                with self.assertRaises(OutOfRange):
                    slice_span(settings, index, 0)

    def test_writing_an_area(self):
        plane = [[0] * 4 for _ in range(4)]
        rows = [[1, 2], [3, 4]]
        self.assertIsNone(put_area(plane, 1, 2, rows))
        self.assertEqual(plane, [[0] * 4, [0] * 4, [0, 1, 2, 0], [0, 3, 4, 0]])
        rows[0][0] = 9
        self.assertEqual(plane[2], [0, 1, 2, 0])


if __name__ == "__main__":
    unittest.main()
