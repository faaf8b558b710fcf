"""The places of blocks and of their areas in planes (points 18, 25 and 34)."""

from thaumatrope.frames import BLOCK


def block_side(fmt, plane):
    """Return the width and height of a block in the plane with this index."""
    return BLOCK // 2 if plane > 0 and fmt.chroma == 1 else BLOCK


def slice_span(settings, index, plane):
    """Return the first row of samples of a slice in a plane, and the row behind its last one."""
    first, count = settings.slice_rows(index)
    side = block_side(settings.fmt, plane)
    return first * side, (first + count) * side


def block_areas(fmt, plane, column, row, count):
    """Return (x, y, side) for each of the areas, one or four, that divide a block in a plane."""
    side = block_side(fmt, plane)
    x = column * side
    y = row * side
    if count == 1:
        return [(x, y, side)]
    half = side // 2
    return [(x, y, half), (x + half, y, half), (x, y + half, half), (x + half, y + half, half)]


def put_area(plane, x, y, rows):
    """Write the rows of an area into a plane, which this modifies."""
    for down, row in enumerate(rows):
        plane[y + down][x:x + len(row)] = row
