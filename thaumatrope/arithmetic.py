"""Arithmetic that several modules share (point 2)."""


def clip(value, low, high):
    """Return the number from low to high that is nearest to value."""
    return min(max(value, low), high)
