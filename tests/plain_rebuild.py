"""Rebuilding in the words of points 47 to 49, for comparison with that of the program."""

import copy

from tests.plain_planes import side_of
from tests.plain_samples import plain_area, plain_block, plain_borders
from tests.plain_syntax import motions_kept
from tests.plain_transform import plain_residue


def plain_parts(fmt, plane, place, count):
    """The column, the row and the size of each transform block of the block at a place (column, row)."""
    column, row = place
    e = side_of(fmt, plane)
    n = e if count == 1 else e // 2
    return [(column * e + n * (k % 2), row * e + n * (k // 2), n) for k in range(count)]


def plain_put(fmt, plane, x, y, predicted, residue):
    """Write the sums of predicted samples and a residue into a plane."""
    top = 2 ** fmt.depth - 1
    for j, row in enumerate(predicted):
        for i, sample in enumerate(row):
            plane[y + j][x + i] = max(0, min(top, sample + residue[j][i]))


def plain_intra_block(fmt, planes, place, block, first, q):
    """Rebuild an intra block; first is the first row of blocks of the slice."""
    _, modes, chroma_mode, levels = block
    for index, plane in enumerate(planes):
        mode_list = modes if index == 0 else [chroma_mode] * 4
        parts = plain_parts(fmt, index, place, len(levels[index]))
        for k, (x, y, n) in enumerate(parts):
            first_row = first * side_of(fmt, index)
            above, left, corner = plain_borders(plane, x, y, n, first_row, 2 ** (fmt.depth - 1))
            area = plain_area(above, left, corner, mode_list[k], 2 ** fmt.depth - 1)
            plain_put(fmt, plane, x, y, area, plain_residue(levels[index][k], q))


def plain_other_block(fmt, header, planes, place, block, motions, references, q):
    """Rebuild an inter or skipped block with these motions of its quarters."""
    predicted = plain_block(fmt, header, motions, references, *place)
    for index, plane in enumerate(planes):
        e = side_of(fmt, index)
        column, row = place
        plain_put(fmt, plane, column * e, row * e, predicted[index], [[0] * e] * e)
        if block[0] == "inter":
            levels = block[3][index]
            for k, (x, y, n) in enumerate(plain_parts(fmt, index, place, len(levels))):
                area = [line[x:x + n] for line in plane[y:y + n]]
                plain_put(fmt, plane, x, y, area, plain_residue(levels[k], q))


def plain_rebuild(settings, header, index, data, planes, references):
    """The planes after a slice was rebuilt in them."""
    fmt = settings.fmt
    delta, _, blocks = data
    planes = copy.deepcopy(planes)
    q = max(0, min(31, header.level + delta))
    first = index * settings.rows
    columns = (fmt.width + 7) // 8
    kept = {}
    for number, block in enumerate(blocks):
        column, row = number % columns, number // columns
        motions = motions_kept(header, kept, (column, row), block)
        kept.update(motions)
        if block[0] == "intra":
            plain_intra_block(fmt, planes, (column, first + row), block, first, q)
        else:
            plain_other_block(fmt, header, planes, (column, first + row), block, list(motions.values()), references, q)
    return planes
