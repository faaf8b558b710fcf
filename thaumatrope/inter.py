"""Prediction of blocks from reference pictures (points 33 and 34)."""

from thaumatrope.blocks import block_areas
from thaumatrope.filters import eighth_area, quarter_area

# The weights of the two predictions of direction 2 have this sum.
WHOLE_WEIGHT = 16


def predict_motion(fmt, header, motion, references, plane, x, y, width, height):
    """Return the rows of an area of a plane that a motion predicts."""
    direction, index, first, second = motion
    if direction == 1:
        return _predict_vector(fmt, second, references[1], plane, x, y, width, height)
    one = _predict_vector(fmt, first, references[index], plane, x, y, width, height)
    if direction == 0:
        return one
    other = _predict_vector(fmt, second, references[1], plane, x, y, width, height)
    return _mixed(one, other, header.weight)


def predict_block(fmt, header, motions, references, column, row):
    """Return the predicted rows of a block in each plane."""
    predicted = []
    for plane in range(fmt.planes):
        areas = block_areas(fmt, plane, column, row, len(motions))
        parts = [
            predict_motion(fmt, header, motion, references, plane, x, y, side, side)
            for motion, (x, y, side) in zip(motions, areas)
        ]
        predicted.append(_joined(parts))
    return predicted


def _predict_vector(fmt, vector, reference, plane, x, y, width, height):
    """Return the rows of an area that a vector predicts from the coded planes of a picture."""
    right, down = vector
    samples = reference[plane]
    if plane > 0 and fmt.chroma == 1:
        return eighth_area(samples, 8 * x + right, 8 * y + down, width, height, top=fmt.top)
    return quarter_area(samples, 4 * x + right, 4 * y + down, width, height, top=fmt.top)


def _mixed(one, other, weight):
    """Return the mean of two predictions, the second one with this weight."""
    rest = WHOLE_WEIGHT - weight
    return [
        [(q * weight + p * rest + 8) >> 4 for p, q in zip(row, twin)]
        for row, twin in zip(one, other)
    ]


def _joined(parts):
    """Return the rows of a block that consists of one part, or of four quarters."""
    if len(parts) == 1:
        return parts[0]
    upper = [left + right for left, right in zip(parts[0], parts[1])]
    lower = [left + right for left, right in zip(parts[2], parts[3])]
    return upper + lower
