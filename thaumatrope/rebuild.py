"""Rebuilding of the samples of a slice from its data (points 47 to 49)."""

from thaumatrope.arithmetic import clip
from thaumatrope.blocks import block_areas, put_area, slice_span
from thaumatrope.data import zero_levels
from thaumatrope.headers import level_with
from thaumatrope.inter import predict_block
from thaumatrope.intra import borders, predict_area
from thaumatrope.quant import restore_square
from thaumatrope.residue import to_square
from thaumatrope.transform import inverse_square
from thaumatrope.walk import SliceWalk


def residue_of(levels, quantizer):
    """Return the residue of a transform block."""
    return inverse_square(restore_square(to_square(levels), quantizer))


def rebuild_slice(settings, header, index, data, planes, references):
    """Write the samples of a slice into coded planes, which this modifies."""
    delta, _, blocks = data
    quantizer = level_with(header, delta)
    builder = SliceBuilder(settings, header, index, quantizer, planes, references)
    for block in blocks:
        builder.rebuild(block)


class SliceBuilder:
    """Rebuilds the blocks of a slice, one after the other, in coded planes, which it modifies."""

    def __init__(self, settings, header, index, quantizer, planes, references):
        self._fmt = settings.fmt
        self._header = header
        self._quantizer = quantizer
        self._planes = planes
        self._references = references
        self._walk = SliceWalk(settings, header, index)
        # The first row of the slice in each plane.
        self._tops = [slice_span(settings, index, plane)[0] for plane in range(settings.fmt.planes)]

    def rebuild(self, block):
        """Write the samples of the next block."""
        if block[0] == "intra":
            self._rebuild_intra(block)
        else:
            self._rebuild_inter(block)
        self._walk.step(block)

    def _rebuild_intra(self, block):
        _, modes, chroma_mode, levels = block
        for plane, parts in enumerate(levels):
            for place, (x, y, side) in enumerate(self._areas(plane, len(parts))):
                mode = modes[place] if plane == 0 else chroma_mode
                predicted = self._predict_area(plane, x, y, side, mode)
                put_area(self._planes[plane], x, y, predicted)
                self._add_residue(plane, x, y, parts[place])

    def _rebuild_inter(self, block):
        motions = self._walk.motions_of(block)
        levels = block[3] if block[0] == "inter" else zero_levels(self._fmt, 8)
        column, row = self._block_place()
        predicted = predict_block(self._fmt, self._header, motions, self._references, column, row)
        for plane, parts in enumerate(levels):
            left, top, _ = self._areas(plane, 1)[0]
            put_area(self._planes[plane], left, top, predicted[plane])
            for place, (x, y, _) in enumerate(self._areas(plane, len(parts))):
                self._add_residue(plane, x, y, parts[place])

    def _block_place(self):
        """Return the column and row of the next block in the picture."""
        return self._walk.column, self._walk.first_row + self._walk.row

    def _areas(self, plane, count):
        """Return the areas, one or four, of the next block in a plane."""
        column, row = self._block_place()
        return block_areas(self._fmt, plane, column, row, count)

    def _predict_area(self, plane, x, y, side, mode):
        """Return the rows of an area that are predicted from the samples around it."""
        samples = self._planes[plane]
        above, left, corner = borders(
            samples, x, y, side, first_row=self._tops[plane], middle=self._fmt.middle,
        )
        return predict_area(above, left, corner, mode, top=self._fmt.top)

    def _add_residue(self, plane, x, y, levels):
        """Add the residue of a transform block to the samples of its area."""
        # Without a level there is no residue: this only saves time.
        if not any(levels):
            return
        samples = self._planes[plane]
        for down, row in enumerate(residue_of(levels, self._quantizer)):
            sums = [samples[y + down][x + right] + more for right, more in enumerate(row)]
            samples[y + down][x:x + len(row)] = [clip(number, 0, self._fmt.top) for number in sums]
