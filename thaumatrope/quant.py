"""Quantization (point 40)."""

from thaumatrope.errors import OutOfRange

GREATEST_QUANTIZER = 31
GREATEST_ROUNDING = 8


def step_of(quantizer):
    """Return the step of a quantization level."""
    if not 0 <= quantizer <= GREATEST_QUANTIZER:
        raise OutOfRange("a quantization level is from 0 to 31")
    return 1 + quantizer + quantizer * quantizer // 4


def quantize(value, *, quantizer, rounding=4):
    """Return the level of an integer."""
    step = step_of(quantizer)
    return _level_of(value, step, _rounding_of(step, rounding))


def restore(level, quantizer):
    """Return the value of a level."""
    return level * step_of(quantizer)


def quantize_square(square, *, quantizer, rounding=4):
    """Return the square of the levels."""
    step = step_of(quantizer)
    more = _rounding_of(step, rounding)
    return [[_level_of(value, step, more) for value in row] for row in square]


def restore_square(square, quantizer):
    """Return the square of the values."""
    step = step_of(quantizer)
    return [[level * step for level in row] for row in square]


def _rounding_of(step, rounding):
    """Return what a rounding adds to each absolute value."""
    if not 0 <= rounding <= GREATEST_ROUNDING:
        raise OutOfRange("a rounding is from 0 to 8")
    return (step - 1) * rounding // GREATEST_ROUNDING


def _level_of(value, step, more):
    level = (abs(value) + more) // step
    return -level if value < 0 else level
