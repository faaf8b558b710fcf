"""Pictures in the words of points 53 to 55, for comparison with those of the program."""

import copy

from tests.plain_filters import plain_deblock, plain_offsets
from tests.plain_planes import flat_planes, side_of
from tests.plain_rebuild import plain_rebuild


def plain_slice_rows(settings):
    """The rows of blocks of each slice (point 18)."""
    rows = list(range((settings.fmt.height + 7) // 8))
    return [rows[first:first + settings.rows] for first in range(0, len(rows), settings.rows)]


def plain_references(settings, header, slots):
    """The reference pictures (point 53)."""
    middle = flat_planes(settings.fmt, 2 ** (settings.fmt.depth - 1))
    return [copy.deepcopy(middle if slots[slot] is None else slots[slot]) for slot in header.refs]


def plain_filtered(settings, header, slices, planes):
    """The planes after both filters (points 50 to 52)."""
    columns = (settings.fmt.width + 7) // 8
    places = {}
    for index, rows in enumerate(plain_slice_rows(settings)):
        for number in range(columns * len(rows)):
            item = (0, True)
            if index in slices:
                level = max(0, min(31, header.level + slices[index][0]))
                item = (level, slices[index][2][number] == ("skip",))
            places[rows[0] + number // columns, number % columns] = item
    if settings.deblock:
        blocks = [[places[row, column] for column in range(columns)] for row in range(len(places) // columns)]
        planes = plain_deblock(settings.fmt, header, planes, blocks)
    if settings.offset:
        offsets = [slices[k][1] if k in slices else None for k in range(len(plain_slice_rows(settings)))]
        planes = plain_offsets(settings, planes, offsets)
    return planes


def plain_picture(settings, header, slices, slots, previous=None):
    """The coded planes of a picture (points 54 and 55)."""
    references = plain_references(settings, header, slots)
    planes = flat_planes(settings.fmt, 2 ** (settings.fmt.depth - 1))
    for index, rows in enumerate(plain_slice_rows(settings)):
        if index in slices:
            planes = plain_rebuild(settings, header, index, slices[index], planes, references)
        elif previous is not None:
            for number, plane in enumerate(planes):
                e = side_of(settings.fmt, number)
                for y in range(rows[0] * e, (rows[-1] + 1) * e):
                    plane[y] = list(previous[number][y])
    return plain_filtered(settings, header, slices, planes)
