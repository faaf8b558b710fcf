"""The filters in the words of points 51 and 52, for comparison with those of the program."""

import copy

from tests.plain_planes import side_of

# The places (column, row) of the neighbours beside a sample, for each direction.
NEIGHBOURS = {
    0: [(-1, 0), (1, 0)],
    1: [(0, -1), (0, 1)],
    2: [(-1, -1), (1, 1)],
    3: [(-1, 1), (1, -1)],
}


def plain_limit(first, second, edge):
    m = (first + second) >> 1
    return (1 + m + m * m // 4) * (8 + edge) >> 4


def plain_smooth(a1, a0, b0, b1, t, top):
    if not (abs(a1 - a0) < t and abs(b1 - b0) < t and abs(a0 - b0) < 2 * t):
        return a0, b0
    d = max(-t, min(t, (3 * (b0 - a0) + a1 - b1 + 4) >> 3))
    return max(0, min(top, a0 + d)), max(0, min(top, b0 - d))


def plain_deblock(fmt, header, planes, blocks):
    """The planes after the filter in the words of point 51: edge by edge, and sample by sample."""
    planes = copy.deepcopy(planes)
    for index, plane in enumerate(planes):
        e = side_of(fmt, index)

        def smooth(one, other, places):
            (level, skipped), (twin, twin_skipped) = one, other
            if not (skipped and twin_skipped):
                samples = [plane[row][column] for row, column in places]
                t = plain_limit(level, twin, header.edge)
                (y, x), (v, u) = places[1:3]
                plane[y][x], plane[v][u] = plain_smooth(*samples, t, 2 ** fmt.depth - 1)

        for x in range(e, len(plane[0]), e):
            for y in range(len(plane)):
                one, other = blocks[y // e][x // e - 1], blocks[y // e][x // e]
                smooth(one, other, [(y, x + k) for k in (-2, -1, 0, 1)])
        for y in range(e, len(plane), e):
            for x in range(len(plane[0])):
                one, other = blocks[y // e - 1][x // e], blocks[y // e][x // e]
                smooth(one, other, [(y + k, x) for k in (-2, -1, 0, 1)])
    return planes


def plain_offset_sample(fmt, plane, x, y, direction, values):
    """The sample at column x and row y after the filter."""
    s = plane[y][x]
    neighbours = []
    for right, down in NEIGHBOURS[direction]:
        if not (0 <= x + right < len(plane[0]) and 0 <= y + down < len(plane)):
            return s
        neighbours.append(plane[y + down][x + right])
    c = sum((s > other) - (s < other) for other in neighbours)
    if c == 0:
        return s
    change = values[{-2: 0, -1: 1, 1: 2, 2: 3}[c]] * 2 ** (fmt.depth - 8)
    return max(0, min(2 ** fmt.depth - 1, s + change))


def plain_offsets(settings, planes, offsets):
    """The planes after the filter in the words of point 52."""
    result = copy.deepcopy(planes)
    for index, items in enumerate(offsets):
        for number, item in enumerate(items or []):
            if item is not None:
                plane = planes[number]
                e = side_of(settings.fmt, number)
                first = index * settings.rows * e
                for y in range(first, min(len(plane), first + settings.rows * e)):
                    for x in range(len(plane[0])):
                        result[number][y][x] = plain_offset_sample(settings.fmt, plane, x, y, *item)
    return result
