"""The offset filter (point 52)."""

from thaumatrope.arithmetic import clip
from thaumatrope.blocks import slice_span
from thaumatrope.frames import copy_planes

# For each direction the step (to the right, down) from a sample to one of its two neighbours.
# The other neighbour is as far away on the other side.
STEPS = ((-1, 0), (0, -1), (-1, -1), (-1, 1))
# The integers of an item count in samples of this depth.
LEAST_DEPTH = 8


def apply_offsets(settings, planes, offsets):
    """Return coded planes after the filter."""
    filtered = copy_planes(planes)
    for index, items in enumerate(offsets):
        if items is not None:
            _filter_slice(settings, index, items, planes, filtered)
    return filtered


def _filter_slice(settings, index, items, planes, filtered):
    """Write the rows of a slice after the filter into filtered, which this modifies."""
    for plane, item in enumerate(items):
        if item is not None:
            first, end = slice_span(settings, index, plane)
            rows = [_filtered_row(settings.fmt, planes[plane], y, item) for y in range(first, end)]
            filtered[plane][first:end] = rows


def _filtered_row(fmt, plane, y, item):
    """Return a row after the filter, from a plane before it."""
    direction, values = item
    right, down = STEPS[direction]
    row = list(plane[y])
    if not abs(down) <= y < len(plane) - abs(down):
        return row
    one = plane[y + down]
    other = plane[y - down]
    scale = 1 << (fmt.depth - LEAST_DEPTH)
    # In the order of the sum of the two signs, from -2 to 2.
    changes = [values[0], values[1], 0, values[2], values[3]]
    for x in range(abs(right), len(row) - abs(right)):
        turn = _sign(row[x] - one[x + right]) + _sign(row[x] - other[x - right])
        row[x] = clip(row[x] + changes[turn + 2] * scale, 0, fmt.top)
    return row


def _sign(number):
    if number == 0:
        return 0
    return 1 if number > 0 else -1
