"""Coding of decisions by their probabilities (points 12 to 14)."""

from thaumatrope.errors import OutOfRange

CONTEXTS = 256
# Probabilities count cases of 4096.
SCALE_BITS = 12
SCALE = 4096
EVEN = 2048
RATE = 5
# Low, span and value are kept in 32 bits.
WORD = 2 ** 32
LEAST_SPAN = 2 ** 24


class Encoder:
    """Codes decisions.

    The octets of low that a later decision changes at most by a carry stand in a list,
    and only the last four of them in a number. So low is no number of unlimited size.
    """

    def __init__(self):
        self._probabilities = [EVEN] * CONTEXTS
        self._front = []
        self._low = 0
        self._span = WORD - 1

    def code(self, context, decision):
        """Code a decision in a context."""
        _check_context(context)
        _check_decision(decision)
        chance = self._probabilities[context]
        self._narrow(chance, decision)
        self._probabilities[context] = _adapted(chance, decision)

    def code_even(self, decision):
        """Code an even decision."""
        _check_decision(decision)
        self._narrow(EVEN, decision)

    def octets(self):
        """Return the code of the decisions up to now."""
        octets = self._front + [(self._low >> shift) & 255 for shift in (24, 16, 8, 0)]
        while octets and octets[-1] == 0:
            octets.pop()
        return octets

    def probability(self, context):
        """Return the probability of a context."""
        _check_context(context)
        return self._probabilities[context]

    def _narrow(self, chance, decision):
        part = (self._span >> SCALE_BITS) * chance
        if decision == 0:
            self._span = part
        else:
            self._span -= part
            self._low += part
            if self._low >= WORD:
                self._low -= WORD
                self._carry()
        while self._span < LEAST_SPAN:
            self._front.append(self._low >> 24)
            self._low = (self._low << 8) & (WORD - 1)
            self._span <<= 8

    def _carry(self):
        """Add 1 to the number that the octets in the list form."""
        place = len(self._front) - 1
        while self._front[place] == 255:
            self._front[place] = 0
            place -= 1
        self._front[place] += 1


class Decoder:
    """Reads decisions from any octets."""

    def __init__(self, octets):
        self._probabilities = [EVEN] * CONTEXTS
        self._octets = list(octets)
        self._place = 0
        self._span = WORD - 1
        self._value = 0
        for _ in range(4):
            self._shift()
        # A value that is not below the span belongs to no decision.
        self._value = min(self._value, WORD - 2)

    def read(self, context):
        """Return the next decision in a context."""
        _check_context(context)
        chance = self._probabilities[context]
        decision = self._decide(chance)
        self._probabilities[context] = _adapted(chance, decision)
        return decision

    def read_even(self):
        """Return the next even decision."""
        return self._decide(EVEN)

    def probability(self, context):
        """Return the probability of a context."""
        _check_context(context)
        return self._probabilities[context]

    def _decide(self, chance):
        part = (self._span >> SCALE_BITS) * chance
        decision = 0 if self._value < part else 1
        if decision == 0:
            self._span = part
        else:
            self._value -= part
            self._span -= part
        while self._span < LEAST_SPAN:
            self._shift()
            self._span <<= 8
        return decision

    def _shift(self):
        """Append the next octet, or 0 after the end, to the value."""
        octet = 0
        if self._place < len(self._octets):
            octet = self._octets[self._place]
            self._place += 1
        self._value = (self._value << 8) | octet


def _check_context(context):
    if not 0 <= context < CONTEXTS:
        raise OutOfRange("a context is from 0 to 255")


def _check_decision(decision):
    if not 0 <= decision <= 1:
        raise OutOfRange("a decision is 0 or 1")


def _adapted(chance, decision):
    """Return the probability of a context after a decision in it."""
    if decision == 0:
        return chance + ((SCALE - chance) >> RATE)
    return chance - (chance >> RATE)
