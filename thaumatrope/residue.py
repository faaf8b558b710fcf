"""Transform blocks: their order and their coding (points 41 and 42)."""

from thaumatrope.arithmetic import clip
from thaumatrope.contexts import LAST, LEVEL, SIGNIFICANT
from thaumatrope.data import GREATEST_LEVEL, LEAST_LEVEL
from thaumatrope.errors import BadData, OutOfRange
from thaumatrope.squares import check_size, check_square

# The size of the square for each number of levels.
SIZES_BY_COUNT = {16: 4, 64: 8}
CLASSES = 64
# The contexts that an absolute value uses. Those behind one above 1 have as many of their own.
VALUE_CONTEXTS = 16


def scan_order(size):
    """Return the positions (row, column) of a square in scan order."""
    check_size(size)
    order = []
    for total in range(2 * size - 1):
        diagonal = [(row, total - row) for row in range(size) if 0 <= total - row < size]
        if total % 2 == 0:
            diagonal.reverse()
        order.extend(diagonal)
    return order


def to_levels(square):
    """Return the integers of a square in scan order."""
    check_square(square)
    return [square[row][column] for row, column in scan_order(len(square))]


def to_square(levels):
    """Return the square whose integers in scan order are the levels."""
    if len(levels) not in SIZES_BY_COUNT:
        raise OutOfRange("a transform block has 16 or 64 levels")
    size = SIZES_BY_COUNT[len(levels)]
    square = [[0] * size for _ in range(size)]
    for level, (row, column) in zip(levels, scan_order(size)):
        square[row][column] = level
    return square


def put_levels(writer, levels):
    """Code a transform block."""
    _check_levels(levels)
    places = [place for place, level in enumerate(levels) if level != 0]
    _put_places(writer, levels, places[-1])
    base = LEVEL
    for place in reversed(places):
        level = levels[place]
        writer.number(base, abs(level) - 1)
        writer.even(1 if level < 0 else 0)
        base = _base_after(base, abs(level))


def get_levels(reader, size):
    """Return the next transform block."""
    check_size(size)
    levels = [0] * (size * size)
    places = _get_places(reader, size * size)
    base = LEVEL
    for place in reversed(places):
        worth = reader.number(base) + 1
        level = -worth if reader.even() == 1 else worth
        levels[place] = clip(level, LEAST_LEVEL, GREATEST_LEVEL)
        base = _base_after(base, worth)
    return levels


def _check_levels(levels):
    if len(levels) not in SIZES_BY_COUNT:
        raise BadData("a transform block has 16 or 64 levels")
    if min(levels) < LEAST_LEVEL or max(levels) > GREATEST_LEVEL:
        raise BadData("a level is from -524288 to 524287")
    if not any(levels):
        raise BadData("a block of zeros is not coded")


def _put_places(writer, levels, last):
    """Code which levels are not 0, where last is the place of the last one of these."""
    stride = CLASSES // len(levels)
    # The level at the end has no flags: it is not 0 if none before it was called the last one.
    for place in range(min(last + 1, len(levels) - 1)):
        writer.flag(SIGNIFICANT + stride * place, levels[place] != 0)
        if levels[place] != 0:
            writer.flag(LAST + stride * place, place == last)


def _get_places(reader, count):
    """Return the places of the levels that are not 0, in a block of count levels."""
    places = []
    stride = CLASSES // count
    for place in range(count - 1):
        if reader.flag(SIGNIFICANT + stride * place):
            places.append(place)
            if reader.flag(LAST + stride * place):
                return places
    return places + [count - 1]


def _base_after(base, worth):
    """Return the base of the level behind one with this absolute value and base."""
    return LEVEL + VALUE_CONTEXTS if worth > 1 else base
