"""Rebuilding of the samples of a slice from its data (points 47 to 49)."""

from thaumatrope.arithmetic import clip
from thaumatrope.blocks import block_areas, put_area, slice_span
from thaumatrope.headers import level_with
from thaumatrope.inter import predict_block
from thaumatrope.intra import borders, predict_area
from thaumatrope.quant import restore_square
from thaumatrope.residue import to_square
from thaumatrope.transform import inverse_square
from thaumatrope.walk import SliceWalk


def residue_of(levels, quantizer):
    """Return the residue of a transform block."""
    return inverse_square(restore_square(to_square(levels), quantizer))


def rebuild_slice(settings, header, index, data, planes, references):
    """Write the samples of a slice into coded planes, which this modifies."""
    delta, _, blocks = data
    quantizer = level_with(header, delta)
    builder = SliceBuilder(settings, header, index, quantizer, planes, references)
    for block in blocks:
        builder.rebuild(block)


class SliceBuilder:
    """Rebuilds the blocks of a slice, one after the other, in coded planes, which it modifies."""

    def __init__(self, settings, header, index, quantizer, planes, references):
        self.walk = SliceWalk(settings, header, index)
        self._fmt = settings.fmt
        self._header = header
        self._quantizer = quantizer
        self._planes = planes
        self._references = references
        # The first row of the slice in each plane.
        self._tops = [slice_span(settings, index, plane)[0] for plane in range(settings.fmt.planes)]

    def rebuild(self, block):
        """Write the samples of the next block, and go on to the block after it."""
        if block[0] == "intra":
            self._rebuild_intra(block)
        else:
            self._rebuild_inter(block)
        self.walk.step(block)

    def areas(self, plane, count):
        """Return the areas, one or four, of the next block in a plane."""
        column, row = self._block_place()
        return block_areas(self._fmt, plane, column, row, count)

    def put_intra(self, plane, area, mode):
        """Write the samples of an area that are predicted from the samples around it."""
        x, y, side = area
        samples = self._planes[plane]
        above, left, corner = borders(
            samples, x, y, side, first_row=self._tops[plane], middle=self._fmt.middle,
        )
        put_area(samples, x, y, predict_area(above, left, corner, mode, top=self._fmt.top))

    def put_inter(self, motions):
        """Write the samples of the next block that are predicted by motions."""
        column, row = self._block_place()
        predicted = predict_block(self._fmt, self._header, motions, self._references, column, row)
        for plane, rows in enumerate(predicted):
            x, y, _ = self.areas(plane, 1)[0]
            put_area(self._planes[plane], x, y, rows)

    def add_residue(self, plane, area, levels):
        """Add the residue of a transform block to the samples of its area."""
        # Without a level there is no residue: this only saves time.
        if not any(levels):
            return
        x, y, side = area
        rows = []
        for old, more in zip(self._planes[plane][y:y + side], residue_of(levels, self._quantizer)):
            rows.append([clip(a + b, 0, self._fmt.top) for a, b in zip(old[x:x + side], more)])
        put_area(self._planes[plane], x, y, rows)

    def _rebuild_intra(self, block):
        _, modes, chroma_mode, levels = block
        for plane, parts in enumerate(levels):
            for place, area in enumerate(self.areas(plane, len(parts))):
                self.put_intra(plane, area, modes[place] if plane == 0 else chroma_mode)
                self.add_residue(plane, area, parts[place])

    def _rebuild_inter(self, block):
        self.put_inter(self.walk.motions_of(block))
        levels = block[3] if block[0] == "inter" else []
        for plane, parts in enumerate(levels):
            for area, part in zip(self.areas(plane, len(parts)), parts):
                self.add_residue(plane, area, part)

    def _block_place(self):
        """Return the column and row of the next block in the picture."""
        return self.walk.column, self.walk.first_row + self.walk.row
