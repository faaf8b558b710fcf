"""The deblocking filter (points 50 and 51)."""

from thaumatrope.arithmetic import clip
from thaumatrope.blocks import block_side
from thaumatrope.quant import step_of
from thaumatrope.squares import transposed


def edge_limit(first, second, edge):
    """Return the limit of the differences at the edge between blocks with these levels."""
    return step_of((first + second) >> 1) * (8 + edge) >> 4


def smooth_edge(a1, a0, b0, b1, *, limit, top):
    """Return the two samples at an edge after the filter."""
    is_flat = abs(a1 - a0) < limit and abs(b1 - b0) < limit
    if not is_flat or abs(a0 - b0) >= 2 * limit:
        return a0, b0
    more = clip((3 * (b0 - a0) + a1 - b1 + 4) >> 3, -limit, limit)
    return clip(a0 + more, 0, top), clip(b0 - more, 0, top)


def deblock(fmt, header, planes, blocks):
    """Return coded planes after the filter."""
    vertical = _limits(blocks, header.edge)
    horizontal = _limits(transposed(blocks), header.edge)
    filtered = []
    for index, plane in enumerate(planes):
        side = block_side(fmt, index)
        rows = _smooth_rows(plane, vertical, side, fmt.top)
        # The columns are filtered like rows.
        columns = _smooth_rows(transposed(rows), horizontal, side, fmt.top)
        filtered.append(transposed(columns))
    return filtered


def _limits(blocks, edge):
    """Return the limits of the edges within each row of blocks, from left to right."""
    return [
        [_limit_between(one, other, edge) for one, other in zip(row, row[1:])]
        for row in blocks
    ]


def _limit_between(one, other, edge):
    """Return the limit between two blocks: 0, with which nothing changes, if both are skipped."""
    first, first_skipped = one
    second, second_skipped = other
    if first_skipped and second_skipped:
        return 0
    return edge_limit(first, second, edge)


def _smooth_rows(plane, limits, side, top):
    """Return the rows of a plane after the filter of the edges within them."""
    return [_smooth_row(row, limits[y // side], side, top) for y, row in enumerate(plane)]


def _smooth_row(row, limits, side, top):
    smooth = list(row)
    for place, limit in enumerate(limits):
        x = (place + 1) * side
        a1, a0, b0, b1 = smooth[x - 2:x + 2]
        smooth[x - 1:x + 1] = smooth_edge(a1, a0, b0, b1, limit=limit, top=top)
    return smooth
