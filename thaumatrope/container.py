"""Containers of segments with times (points 69 and 70)."""

from thaumatrope.errors import BadContainer
from thaumatrope.headers import SEQUENCE
from thaumatrope.units import read_units

# The letters T, H, A and U.
MARK = (84, 72, 65, 85)
MOST_ENTRIES = 65535
GREATEST_TIME = 2 ** 32 - 1
# The octets in front of the times, and those of each time with its length.
HEAD = 6
ENTRY = 8


def split_segments(octets):
    """Return the segments of any octets."""
    starts = [start for start, kind, _ in read_units(octets) if kind == SEQUENCE]
    ends = starts[1:] + [len(octets)]
    return [octets[start:end] for start, end in zip(starts, ends)]


def pack_container(entries):
    """Return the octets of a container of tuples (time, segment)."""
    if len(entries) > MOST_ENTRIES:
        raise BadContainer("a container has at most 65535 segments")
    _check_times([time for time, _ in entries])
    octets = list(MARK) + _octets_of(len(entries), 2)
    for time, segment in entries:
        octets.extend(_octets_of(time, 4) + _octets_of(len(segment), 4))
    for _, segment in entries:
        octets.extend(segment)
    return octets


def open_container(octets):
    """Return the tuples (time, segment) of a container."""
    _require(len(octets) >= HEAD and octets[:4] == list(MARK), "the octets begin otherwise")
    count = _number_of(octets[4:HEAD])
    end = HEAD + ENTRY * count
    entries = []
    for index in range(count):
        place = HEAD + ENTRY * index
        length = _number_of(octets[place + 4:place + ENTRY])
        entries.append((_number_of(octets[place:place + 4]), octets[end:end + length]))
        end += length
    # This refuses octets that end within the times and lengths, too.
    _require(len(octets) == end, "the octets are more or fewer than those of the segments")
    _check_times([time for time, _ in entries])
    return entries


def seek_container(octets, time):
    """Return the octets of the segments from the last one on that is not later than the time."""
    entries = open_container(octets)
    first = 0
    for place, (begin, _) in enumerate(entries):
        if begin <= time:
            first = place
    found = []
    for _, segment in entries[first:]:
        found.extend(segment)
    return found


def _require(holds, text):
    if not holds:
        raise BadContainer(text)


def _check_times(times):
    _require(all([0 <= time <= GREATEST_TIME for time in times]), "a time is from 0 to 2**32 - 1")
    ascends = all([one < other for one, other in zip(times, times[1:])])
    _require(ascends, "the times ascend")


def _octets_of(number, count):
    """Return a number in count octets, the highest first."""
    return [(number >> 8 * place) & 255 for place in range(count - 1, -1, -1)]


def _number_of(octets):
    """Return the number that octets form."""
    number = 0
    for octet in octets:
        number = (number << 8) | octet
    return number
