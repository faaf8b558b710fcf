"""Streams of units (points 9 to 11)."""

from thaumatrope.errors import OutOfRange

MOST_OCTETS = 65536
GREATEST_KIND = 31
# The octet behind each payload: without it, zeros at the end of a payload would be lost.
STOP = 128
ESCAPE = 3


def escape(octets):
    """Return the octets, so escaped that 0, 0, 1 does not occur in them."""
    escaped = []
    zeros = 0
    for octet in octets:
        if zeros == 2 and octet <= ESCAPE:
            escaped.append(ESCAPE)
            zeros = 0
        escaped.append(octet)
        zeros = zeros + 1 if octet == 0 else 0
    return escaped


def unescape(octets):
    """Return the octets without those that escaping inserts."""
    kept = []
    zeros = 0
    for octet in octets:
        if zeros >= 2 and octet == ESCAPE:
            zeros = 0
        else:
            kept.append(octet)
            zeros = zeros + 1 if octet == 0 else 0
    return kept


def write_unit(kind, payload):
    """Return the written form of a unit."""
    if not 1 <= kind <= GREATEST_KIND:
        raise OutOfRange("the kind of a unit is from 1 to 31")
    if len(payload) > MOST_OCTETS:
        raise OutOfRange("a payload has at most 65536 octets")
    return [0, 0, 1, kind] + escape(payload + [STOP])


def write_units(units):
    """Return the written forms of tuples (kind, payload), one after the other."""
    stream = []
    for kind, payload in units:
        stream.extend(write_unit(kind, payload))
    return stream


def read_units(octets):
    """Yield (start, kind, payload) for each start in any octets."""
    starts = _starts(octets)
    ends = starts[1:] + [len(octets)]
    for start, end in zip(starts, ends):
        kind, payload = _read_raw(octets[start + 3:end])
        yield start, kind, payload


def _starts(octets):
    """Return the indexes at which 0, 0, 1 follow each other."""
    return [
        index
        for index in range(len(octets) - 2)
        if octets[index] == 0 and octets[index + 1] == 0 and octets[index + 2] == 1
    ]


def _read_raw(raw):
    """Return the kind and the payload of a raw unit: 0 and nothing if it is bad."""
    if not raw or not 1 <= raw[0] <= GREATEST_KIND:
        return 0, []
    end = len(raw)
    while raw[end - 1] == 0:
        end -= 1
    if raw[end - 1] != STOP:
        return 0, []
    payload = unescape(raw[1:end - 1])
    if len(payload) > MOST_OCTETS:
        return 0, []
    return raw[0], payload
