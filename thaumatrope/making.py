"""Making of the data of pictures from the planes of padded frames (points 61, 63 and 64)."""

from thaumatrope.data import level_shape
from thaumatrope.errors import BadData
from thaumatrope.frames import pad_frame
from thaumatrope.headers import level_with
from thaumatrope.picture import filter_planes, middle_planes, references_of
from thaumatrope.quant import quantize_square
from thaumatrope.rebuild import SliceBuilder
from thaumatrope.residue import to_levels
from thaumatrope.segment import Segment
from thaumatrope.transform import forward_square


def check_numbers(headers):
    """Raise BadData if two headers have the same number."""
    if len(set([header.number for header in headers])) < len(headers):
        raise BadData("two headers have the same number")


def check_headers(frames, headers):
    """Raise BadData unless each header has a number and a frame of its own."""
    check_numbers(headers)
    if any([header.number >= len(frames) for header in headers]):
        raise BadData("there is no frame for a header")


def make_pictures(settings, frames, headers, make_slices):
    """Return pictures with these headers, of which a function makes the slices with a PictureMaker."""
    segment = Segment(settings)
    pictures = []
    for header in headers:
        maker = PictureMaker(segment, header, pad_frame(settings.fmt, frames[header.number]))
        slices = make_slices(maker)
        segment.keep(header, maker.finished_planes(slices))
        pictures.append((header, slices))
    return pictures


class PictureMaker:
    """Makes the slices of a picture, and rebuilds them in planes of its own."""

    def __init__(self, segment, header, source):
        self.settings = segment.settings
        self.header = header
        self._source = source
        self._planes = middle_planes(segment.settings.fmt)
        self._references = references_of(segment.settings, header, segment.slots)

    def start_slice(self, index, delta):
        """Return a maker for the blocks of a slice."""
        quantizer = level_with(self.header, delta)
        builder = SliceBuilder(
            self.settings, self.header, index, quantizer, self._planes, self._references,
        )
        return BlockMaker(self.settings.fmt, quantizer, builder, self._source, self._planes)

    def finished_planes(self, slices):
        """Return the coded planes of the picture, of which all slices were made."""
        return filter_planes(self.settings, self.header, dict(enumerate(slices)), self._planes)


class BlockMaker:
    """Makes the blocks of a slice.

    A plan is a block without its levels. The builder rebuilds the blocks in the planes.
    """

    def __init__(self, fmt, quantizer, builder, source, planes):
        self.builder = builder
        self._fmt = fmt
        self._quantizer = quantizer
        self._source = source
        self._planes = planes

    def make(self, plan, rounding):
        """Return the next block with this plan, after its samples were written."""
        if plan[0] == "skip":
            self.builder.put_inter(self.builder.walk.motions_of(plan))
            return plan
        if plan[0] == "intra":
            _, modes, chroma_mode = plan
            return "intra", modes, chroma_mode, self._intra_levels(modes, chroma_mode, rounding)
        _, motions, size = plan
        return "inter", motions, size, self._inter_levels(motions, size, rounding)

    def error(self):
        """Return the sum of the squared differences of the next block to the source."""
        total = 0
        for plane in range(self._fmt.planes):
            for row in self._missing(plane, self.builder.areas(plane, 1)[0]):
                total += sum([number * number for number in row])
        return total

    def _intra_levels(self, modes, chroma_mode, rounding):
        levels = []
        size = 8 if len(modes) == 1 else 4
        for plane, (count, _) in enumerate(level_shape(self._fmt, size)):
            parts = []
            for place, area in enumerate(self.builder.areas(plane, count)):
                self.builder.put_intra(plane, area, modes[place] if plane == 0 else chroma_mode)
                parts.append(self._add_levels(plane, area, rounding))
            levels.append(parts)
        return levels

    def _inter_levels(self, motions, size, rounding):
        self.builder.put_inter(motions)
        levels = []
        for plane, (count, _) in enumerate(level_shape(self._fmt, size)):
            areas = self.builder.areas(plane, count)
            levels.append([self._add_levels(plane, area, rounding) for area in areas])
        return levels

    def _add_levels(self, plane, area, rounding):
        """Return the levels of an area that contains its prediction, after adding their residue."""
        square = forward_square(self._missing(plane, area))
        quantized = quantize_square(square, quantizer=self._quantizer, rounding=rounding)
        levels = to_levels(quantized)
        self.builder.add_residue(plane, area, levels)
        return levels

    def _missing(self, plane, area):
        """Return the rows of what the samples of an area miss of the source."""
        x, y, side = area
        rows = []
        for want, have in zip(self._source[plane][y:y + side], self._planes[plane][y:y + side]):
            rows.append([a - b for a, b in zip(want[x:x + side], have[x:x + side])])
        return rows
