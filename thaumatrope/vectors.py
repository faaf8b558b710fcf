"""The motion of the quarters of a slice, and its coding (points 28 to 30)."""

from thaumatrope.arithmetic import clip
from thaumatrope.contexts import DIRECTION, INDEX, VECTOR_X, VECTOR_Y
from thaumatrope.data import GREATEST_COMPONENT

# The places of the vectors in a motion.
FIRST = 2
SECOND = 3


class MotionGrid:
    """The motion of each quarter of a slice."""

    def __init__(self, columns, rows):
        self._width = 2 * columns
        self._height = 2 * rows
        self._lines = [[None] * self._width for _ in range(self._height)]

    def keep(self, column, row, motions):
        """Give the quarters of a block its one motion or its four, or none for an intra block."""
        kept = [None] if motions is None else motions
        four = kept * 4 if len(kept) == 1 else kept
        for place, motion in enumerate(four):
            self.keep_quarter(2 * column + place % 2, 2 * row + place // 2, motion)

    def keep_quarter(self, x, y, motion):
        """Give one quarter a motion. There is nothing to keep outside of the grid."""
        if self._has(x, y):
            self._lines[y][x] = motion

    def motion_at(self, x, y):
        """Return the motion of a quarter, or None."""
        return self._lines[y][x] if self._has(x, y) else None

    def predicted(self, x, y, *, second=False):
        """Return the predicted first or second vector of a quarter."""
        place = SECOND if second else FIRST
        near = [
            self._vector_at(x - 1, y, place),
            self._vector_at(x, y - 1, place),
            self._vector_at(x - 1, y - 1, place),
        ]
        return _median([vector[0] for vector in near]), _median([vector[1] for vector in near])

    def skipped(self, column, row, kind):
        """Return the motion of a skipped block in a picture of this kind."""
        first = self.predicted(2 * column, 2 * row)
        if kind == "P":
            return 0, 0, first, None
        return 2, 0, first, self.predicted(2 * column, 2 * row, second=True)

    def _has(self, x, y):
        return 0 <= x < self._width and 0 <= y < self._height

    def _vector_at(self, x, y, place):
        motion = self.motion_at(x, y)
        if motion is None or motion[place] is None:
            return 0, 0
        return motion[place]


def write_motion(writer, header, grid, x, y, motion):
    """Code the motion of a quarter."""
    direction, index, first, second = motion
    if header.kind == "B":
        writer.choice(DIRECTION, direction, count=3)
    elif len(header.refs) == 2:
        writer.choice(INDEX, index, count=2)
    if first is not None:
        _write_vector(writer, first, grid.predicted(x, y))
    if second is not None:
        _write_vector(writer, second, grid.predicted(x, y, second=True))


def read_motion(reader, header, grid, x, y):
    """Return the next motion, that of a quarter."""
    direction = 0
    index = 0
    if header.kind == "B":
        direction = reader.choice(DIRECTION, count=3)
    elif len(header.refs) == 2:
        index = reader.choice(INDEX, count=2)
    first = None
    second = None
    if direction != 1:
        first = _read_vector(reader, grid.predicted(x, y))
    if direction != 0:
        second = _read_vector(reader, grid.predicted(x, y, second=True))
    return direction, index, first, second


def clip_vector(x, y):
    """Return the vector that is nearest to these components."""
    return _clip_component(x), _clip_component(y)


def _clip_component(component):
    return clip(component, -GREATEST_COMPONENT, GREATEST_COMPONENT)


def _median(numbers):
    return sorted(numbers)[1]


def _write_vector(writer, vector, predicted):
    writer.signed(VECTOR_X, vector[0] - predicted[0])
    writer.signed(VECTOR_Y, vector[1] - predicted[1])


def _read_vector(reader, predicted):
    x = predicted[0] + reader.signed(VECTOR_X)
    y = predicted[1] + reader.signed(VECTOR_Y)
    return clip_vector(x, y)
