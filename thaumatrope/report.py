"""Reports of the units of any octets (point 71)."""

from thaumatrope.headers import END, NOTE, PICTURE, SEQUENCE, SLICE
from thaumatrope.payloads import picture_in, settings_after, settings_in, slice_in
from thaumatrope.units import read_units

# The octets in front of a raw unit.
MARK = 3
# The kind that bad units count as.
BAD = 0


def report_stream(octets):
    """Return a row (start, kind, length, note) for each unit."""
    units = list(read_units(octets))
    ends = [start for start, _, _ in units[1:]] + [len(octets)]
    rows = []
    settings = None
    for (start, kind, payload), end in zip(units, ends):
        rows.append((start, kind, end - start - MARK, _note_of(settings, kind, payload)))
        settings = settings_after(settings, kind, payload)
    return rows


def _note_of(settings, kind, payload):
    """Return the note of a unit, in front of which these are the settings."""
    note = None
    if kind == BAD:
        note = "bad"
    elif kind == END:
        note = "end"
    elif kind == NOTE:
        note = "note"
    elif kind == SEQUENCE:
        note = _sequence_note(settings_in(payload))
    elif kind == PICTURE:
        note = _picture_note(picture_in(settings, payload))
    elif kind == SLICE:
        note = _slice_note(slice_in(settings, payload))
    return "ignored" if note is None else note


# These return None for a payload that is not valid.


def _sequence_note(settings):
    if settings is None:
        return None
    return f"sequence {settings.fmt.width}x{settings.fmt.height}"


def _picture_note(header):
    return None if header is None else f"picture {header.kind} {header.number}"


def _slice_note(found):
    if found is None:
        return None
    header, _ = found
    return f"slice {header.number} {header.index}"
