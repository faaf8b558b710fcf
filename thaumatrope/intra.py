"""Prediction of samples from the samples around them (points 26 and 27)."""

from thaumatrope.arithmetic import clip
from thaumatrope.errors import OutOfRange


def borders(plane, x, y, n, *, first_row, middle):
    """Return the samples above an area, those to its left, and the corner between them."""
    has_above = y > first_row
    has_left = x > 0
    above = plane[y - 1][x:x + n] if has_above else []
    left = [row[x - 1] for row in plane[y:y + n]] if has_left else []
    if not has_above:
        above = [left[0] if has_left else middle] * n
    if not has_left:
        left = [above[0]] * n
    if has_above and has_left:
        return above, left, plane[y - 1][x - 1]
    return above, left, left[0]


# Each mode has a function of the same four arguments, whether it uses them or not.


def _average(above, left, corner, top):
    n = len(above)
    value = (sum(above) + sum(left) + n) >> _mean_shift(n)
    return [[value] * n for _ in left]


def _vertical(above, left, corner, top):
    return [list(above) for _ in left]


def _horizontal(above, left, corner, top):
    return [[sample] * len(above) for sample in left]


def _smooth(above, left, corner, top):
    n = len(above)
    shift = _mean_shift(n)
    rows = []
    for j in range(n):
        low = (j + 1) * left[n - 1] + n
        rows.append([
            ((n - 1 - j) * above[i] + low + (n - 1 - i) * left[j] + (i + 1) * above[n - 1]) >> shift
            for i in range(n)
        ])
    return rows


def _nearest(above, left, corner, top):
    return [[_nearest_of(side, sample, corner) for sample in above] for side in left]


def _slope(above, left, corner, top):
    return [[clip(side + sample - corner, 0, top) for sample in above] for side in left]


def _down_right(above, left, corner, top):
    n = len(above)
    means = _means(left[::-1] + [corner] + above)
    return [means[n - 1 - j:2 * n - 1 - j] for j in range(n)]


def _down_left(above, left, corner, top):
    n = len(above)
    means = _means(above + [above[n - 1]] * (n + 1))
    return [means[j:j + n] for j in range(n)]


MODES = (
    _average, _vertical, _horizontal, _smooth, _nearest, _slope, _down_right, _down_left,
)


def predict_area(above, left, corner, mode, *, top):
    """Return the predicted samples of an area."""
    if not 0 <= mode < len(MODES):
        raise OutOfRange("a mode is from 0 to 7")
    predict = MODES[mode]
    return predict(above, left, corner, top)


def _mean_shift(n):
    """Return the shift that divides by the 2 * n samples above and to the left."""
    return 4 if n == 8 else 3


def _nearest_of(side, sample, corner):
    """Return the first of the three with the least distance to side + sample - corner."""
    to_side = abs(sample - corner)
    to_sample = abs(side - corner)
    to_corner = abs(side + sample - 2 * corner)
    if to_side <= to_sample and to_side <= to_corner:
        return side
    return sample if to_sample <= to_corner else corner


def _means(samples):
    """Return the weighted mean of each three samples that follow each other."""
    return [
        (samples[k - 1] + 2 * samples[k] + samples[k + 1] + 2) >> 2
        for k in range(1, len(samples) - 1)
    ]
