"""Choices that are given as integers (point 61)."""

from thaumatrope.errors import OutOfRange

GREATEST_CHOICE = 2 ** 32


class Choices:
    """Integers, each of which makes one choice."""

    def __init__(self, numbers):
        if any([not 0 <= number <= GREATEST_CHOICE for number in numbers]):
            raise OutOfRange("a choice is from 0 to 2**32")
        self._numbers = list(numbers)
        self._place = 0

    @property
    def left(self):
        """The number of integers that are left."""
        return len(self._numbers) - self._place

    def among(self, count):
        """Take a choice among count values: 0 if no integer is left."""
        if count < 1:
            raise OutOfRange("a choice is among one value at least")
        if self._place == len(self._numbers):
            return 0
        number = self._numbers[self._place]
        self._place += 1
        return number % count
