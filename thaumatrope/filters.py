"""Samples between the samples of a plane (points 31 and 32)."""

from thaumatrope.arithmetic import clip

# The six weights of each fraction, in quarters.
WEIGHTS = (
    (0, 0, 64, 0, 0, 0),
    (1, -5, 52, 20, -5, 1),
    (2, -10, 40, 40, -10, 2),
    (1, -5, 20, 52, -5, 1),
)


def quarter_sample(plane, x, y, *, top):
    """Return the value at a position in quarters."""
    return quarter_area(plane, x, y, 1, 1, top=top)[0][0]


def eighth_sample(plane, x, y, *, top):
    """Return the value at a position in eighths."""
    return eighth_area(plane, x, y, 1, 1, top=top)[0][0]


def quarter_area(plane, x, y, width, height, *, top):
    """Return rows of the values at a position in quarters and at those after it."""
    f = x & 3
    g = y & 3
    # The weights of a whole position give the sample itself: this only saves time.
    if f == 0 and g == 0:
        return _samples(plane, x >> 2, y >> 2, width, height)
    sums = []
    for row in _samples(plane, (x >> 2) - 2, (y >> 2) - 2, width + 5, height + 5):
        sums.append(_weighted(WEIGHTS[f], [row[s:s + width] for s in range(6)]))
    return [
        [clip((value + 2048) >> 12, 0, top) for value in _weighted(WEIGHTS[g], sums[t:t + 6])]
        for t in range(height)
    ]


def eighth_area(plane, x, y, width, height, *, top):
    """Return rows of the values at a position in eighths and at those after it.

    The values lie between samples, so none of them is above top.
    """
    f = x & 7
    g = y & 7
    sums = []
    for row in _samples(plane, x >> 3, y >> 3, width + 1, height + 1):
        sums.append([(8 - f) * a + f * b for a, b in zip(row, row[1:])])
    return [
        [((8 - g) * a + g * c + 32) >> 6 for a, c in zip(upper, lower)]
        for upper, lower in zip(sums, sums[1:])
    ]


def _samples(plane, x, y, width, height):
    """Return the samples of an area that may reach beyond the plane."""
    columns = [clip(column, 0, len(plane[0]) - 1) for column in range(x, x + width)]
    rows = [clip(row, 0, len(plane) - 1) for row in range(y, y + height)]
    return [[plane[row][column] for column in columns] for row in rows]


def _weighted(weights, lines):
    """Return the sum of the numbers at each place of six lines, each times the weight of its line."""
    p, q, r, s, t, u = weights
    return [p * a + q * b + r * c + s * d + t * e + u * f for a, b, c, d, e, f in zip(*lines)]
