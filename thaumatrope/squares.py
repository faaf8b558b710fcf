"""Squares, and the rows and columns of rectangles (points 35 and 41)."""

from thaumatrope.errors import OutOfRange

SIZES = (4, 8)


def check_size(size):
    """Raise OutOfRange unless squares of this size exist."""
    if size not in SIZES:
        raise OutOfRange("a square has the size 4 or 8")


def check_square(square):
    """Raise OutOfRange unless the rows form a square."""
    check_size(len(square))
    for row in square:
        if len(row) != len(square):
            raise OutOfRange("a row of a square has as many integers as there are rows")


def transposed(rows):
    """Return the columns as rows."""
    return [list(column) for column in zip(*rows)]
