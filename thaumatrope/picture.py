"""Pictures as a whole (points 53 to 55)."""

from thaumatrope.blocks import slice_span
from thaumatrope.deblock import deblock
from thaumatrope.frames import copy_planes, flat_frame, pad_frame
from thaumatrope.headers import level_with
from thaumatrope.offset import apply_offsets
from thaumatrope.rebuild import rebuild_slice


def middle_planes(fmt):
    """Return coded planes in which every sample is the middle."""
    return pad_frame(fmt, flat_frame(fmt))


def references_of(settings, header, slots):
    """Return the coded planes that the refs of a header select."""
    return [_content(settings.fmt, slots[slot]) for slot in header.refs]


def rebuild_picture(settings, header, slices, slots, *, previous=None):
    """Return the coded planes of a picture, of which some slices may be missing."""
    planes = middle_planes(settings.fmt)
    references = references_of(settings, header, slots)
    for index in range(settings.slices()):
        if index in slices:
            rebuild_slice(settings, header, index, slices[index], planes, references)
        elif previous is not None:
            _conceal(settings, index, previous, planes)
    return filter_planes(settings, header, slices, planes)


def filter_planes(settings, header, slices, planes):
    """Return the planes of a picture after both filters, where slices are those that are present."""
    offsets = [
        slices[index][1] if index in slices else None for index in range(settings.slices())
    ]
    smooth = planes
    if settings.deblock:
        smooth = deblock(settings.fmt, header, planes, _filter_blocks(settings, header, slices))
    return apply_offsets(settings, smooth, offsets)


def _content(fmt, planes):
    """Return the planes that a slot counts as."""
    return middle_planes(fmt) if planes is None else copy_planes(planes)


def _conceal(settings, index, previous, planes):
    """Write the samples of a missing slice into planes, which this modifies."""
    for plane, rows in enumerate(previous):
        first, end = slice_span(settings, index, plane)
        planes[plane][first:end] = [list(row) for row in rows[first:end]]


def _filter_blocks(settings, header, slices):
    """Return rows with (level, skipped) for each block of a picture."""
    columns, _ = settings.fmt.blocks()
    rows = []
    for index in range(settings.slices()):
        _, count = settings.slice_rows(index)
        items = [(0, True)] * (columns * count)
        if index in slices:
            delta, _, blocks = slices[index]
            quantizer = level_with(header, delta)
            items = [(quantizer, block[0] == "skip") for block in blocks]
        rows.extend([items[columns * row:columns * (row + 1)] for row in range(count)])
    return rows
