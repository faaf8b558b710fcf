"""Writing and reading of bits (points 7 and 8)."""

from thaumatrope.errors import BadOctets, OutOfBits, OutOfRange

MOST_BITS = 64
# A code with more zeros in front would be above every number that can be written.
MOST_ZEROS = 32


class BitWriter:
    """Collects bits."""

    def __init__(self):
        self._full = []
        # The bits after the last full octet: the number that they form, and how many they are.
        self._rest = 0
        self._rest_bits = 0

    @property
    def length(self):
        """The number of bits that were written."""
        return 8 * len(self._full) + self._rest_bits

    def put(self, value, count):
        """Write a number with count bits."""
        if not 0 <= count <= MOST_BITS:
            raise OutOfRange("the count of bits is from 0 to 64")
        if not 0 <= value < 1 << count:
            raise OutOfRange("the value does not fit into its bits")
        self._add(value, count)

    def put_ue(self, value):
        """Write the exponential code of a number."""
        if not 0 <= value <= 2 ** 32:
            raise OutOfRange("the value is from 0 to 2**32")
        digits = (value + 1).bit_length()
        self._add(value + 1, 2 * digits - 1)

    def put_se(self, value):
        """Write the signed code of a number."""
        # Exactly the numbers from -2**31 to 2**31 become numbers that put_ue accepts.
        self.put_ue(2 * value - 1 if value > 0 else -2 * value)

    def octets(self):
        """Return the octets of the bits up to now."""
        free = 7 - self._rest_bits
        return self._full + [(2 * self._rest + 1) << free]

    def _add(self, value, count):
        rest = (self._rest << count) | value
        left = self._rest_bits + count
        while left >= 8:
            left -= 8
            self._full.append(rest >> left)
            rest &= (1 << left) - 1
        self._rest = rest
        self._rest_bits = left


class BitReader:
    """Reads the bits of octets that a bit writer gives."""

    def __init__(self, octets):
        if not octets or octets[-1] == 0:
            raise BadOctets("the octets are empty or end with 0")
        self._octets = list(octets)
        self._place = 0
        self._end = 8 * len(octets) - _last_bit(octets[-1])

    @property
    def left(self):
        """The number of bits that are left."""
        return self._end - self._place

    def get(self, count):
        """Read count bits and return the number that they form."""
        if not 0 <= count <= MOST_BITS:
            raise OutOfRange("the count of bits is from 0 to 64")
        return self._take(count)

    def get_ue(self):
        """Read an exponential code and return its number."""
        zeros = self._zeros()
        return self._take(2 * zeros + 1) - 1

    def get_se(self):
        """Read a signed code and return its number."""
        code = self.get_ue()
        return (code + 1) // 2 if code & 1 else -(code // 2)

    def _zeros(self):
        """Return the number of zeros in front of the next 1, without moving on."""
        zeros = 0
        while self._look(self._place + zeros, 1) == 0:
            zeros += 1
            if zeros > MOST_ZEROS:
                raise BadOctets("a code begins with too many zeros")
        return zeros

    def _take(self, count):
        value = self._look(self._place, count)
        self._place += count
        return value

    def _look(self, place, count):
        """Return the number that count bits from a place on form."""
        end = place + count
        if end > self._end:
            raise OutOfBits("the bits end too early")
        value = 0
        for octet in self._octets[place // 8:(end + 7) // 8]:
            value = (value << 8) | octet
        return (value >> (-end & 7)) & ((1 << count) - 1)


def _last_bit(octet):
    """Return the number of bits from the last bit 1 of an octet to its end."""
    bits = 1
    while (octet >> (bits - 1)) & 1 == 0:
        bits += 1
    return bits
