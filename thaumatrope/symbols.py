"""Coding of values by decisions (points 15 and 16)."""

from thaumatrope.errors import OutOfRange

CONTEXTS = 256
MOST_CHOICES = 16
GREATEST_UNARY = 64
GREATEST_NUMBER = 2 ** 20
# The greatest number plus 1 has so many binary digits after the first one.
MOST_DIGITS = 20
# The decisions of a unary value and the digits of a number use so many contexts each.
SHARED = 8


class SymbolWriter:
    """Codes values with an encoder."""

    def __init__(self, encoder):
        self._encoder = encoder

    def flag(self, base, value):
        """Code True or False."""
        _check_contexts(base, 1)
        self._encoder.code(base, 1 if value else 0)

    def choice(self, base, value, *, count):
        """Code a value from 0 to count - 1."""
        digits = _choice_digits(base, count)
        if not 0 <= value < count:
            raise OutOfRange("a choice is below its count")
        path = 1
        for shift in range(digits - 1, -1, -1):
            digit = (value >> shift) & 1
            self._encoder.code(base + path - 1, digit)
            path = 2 * path + digit

    def unary(self, base, value, *, most):
        """Code a value from 0 to most."""
        _check_unary(base, most)
        if not 0 <= value <= most:
            raise OutOfRange("a unary value is from 0 to its greatest one")
        for index in range(value):
            self._encoder.code(base + min(index, SHARED - 1), 1)
        if value < most:
            self._encoder.code(base + min(value, SHARED - 1), 0)

    def number(self, base, value):
        """Code a number from 0 to 2**20."""
        _check_contexts(base, 2 * SHARED)
        if not 0 <= value <= GREATEST_NUMBER:
            raise OutOfRange("a number is from 0 to 2**20")
        digits = (value + 1).bit_length() - 1
        self.unary(base, digits, most=MOST_DIGITS)
        for shift in range(digits - 1, -1, -1):
            digit = ((value + 1) >> shift) & 1
            if shift == digits - 1:
                self._encoder.code(_digit_context(base, digits), digit)
            else:
                self._encoder.code_even(digit)

    def signed(self, base, value):
        """Code a value from -2**20 to 2**20."""
        self.number(base, abs(value))
        if value != 0:
            self._encoder.code_even(1 if value < 0 else 0)

    def even(self, decision):
        """Code an even decision."""
        self._encoder.code_even(decision)


class SymbolReader:
    """Reads values with a decoder."""

    def __init__(self, decoder):
        self._decoder = decoder

    def flag(self, base):
        """Return the next True or False."""
        _check_contexts(base, 1)
        return self._decoder.read(base) == 1

    def choice(self, base, *, count):
        """Return the next value from 0 to count - 1."""
        digits = _choice_digits(base, count)
        path = 1
        for _ in range(digits):
            path = 2 * path + self._decoder.read(base + path - 1)
        return min(path - (1 << digits), count - 1)

    def unary(self, base, *, most):
        """Return the next value from 0 to most."""
        _check_unary(base, most)
        value = 0
        while value < most and self._decoder.read(base + min(value, SHARED - 1)) == 1:
            value += 1
        return value

    def number(self, base):
        """Return the next number from 0 to 2**20."""
        _check_contexts(base, 2 * SHARED)
        digits = self.unary(base, most=MOST_DIGITS)
        grown = 1
        if digits > 0:
            grown = 2 + self._decoder.read(_digit_context(base, digits))
        for _ in range(digits - 1):
            grown = 2 * grown + self._decoder.read_even()
        return min(grown - 1, GREATEST_NUMBER)

    def signed(self, base):
        """Return the next value from -2**20 to 2**20."""
        size = self.number(base)
        if size != 0 and self._decoder.read_even() == 1:
            return -size
        return size

    def even(self):
        """Return the next even decision."""
        return self._decoder.read_even()


def _check_contexts(base, count):
    """Raise OutOfRange unless the contexts from base on, count of them, exist."""
    if count > 0 and not 0 <= base <= CONTEXTS - count:
        raise OutOfRange("a context that the value may use is not from 0 to 255")


def _choice_digits(base, count):
    """Return the number of binary digits of a choice, after a check of its contexts."""
    if not 1 <= count <= MOST_CHOICES:
        raise OutOfRange("a choice is among 1 to 16 values")
    digits = (count - 1).bit_length()
    _check_contexts(base, (1 << digits) - 1)
    return digits


def _check_unary(base, most):
    if not 0 <= most <= GREATEST_UNARY:
        raise OutOfRange("the greatest unary value is from 0 to 64")
    _check_contexts(base, min(most, SHARED))


def _digit_context(base, digits):
    """Return the context of the first of the digits of a number that follow its length."""
    return base + SHARED + min(digits - 1, SHARED - 1)
