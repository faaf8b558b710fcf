"""Decoding of any octets (points 56 to 58)."""

from thaumatrope.headers import END, PICTURE, SEQUENCE, SLICE
from thaumatrope.payloads import picture_in, settings_after, slice_in
from thaumatrope.picture import rebuild_picture
from thaumatrope.segment import Segment
from thaumatrope.syntax import read_data
from thaumatrope.units import read_units


class StreamDecoder:
    """Takes units, and returns the pictures of each segment when it closes."""

    def __init__(self):
        # None if there are no settings.
        self._segment = None
        # The header of the current picture, or None, and the data of its slices by their indexes.
        self._header = None
        self._slices = {}

    @property
    def current_settings(self):
        """The settings, or None."""
        return None if self._segment is None else self._segment.settings

    @property
    def current_header(self):
        """The header of the current picture, or None."""
        return self._header

    def take(self, kind, payload):
        """Take a unit, and return the decoded pictures of the segment that it closes."""
        if kind in (SEQUENCE, END):
            closed = self.finish()
            settings = settings_after(None, kind, payload)
            self._segment = None if settings is None else Segment(settings)
            return closed
        if kind == PICTURE:
            self._close_picture()
            self._header = picture_in(self.current_settings, payload)
        if kind == SLICE:
            self._take_slice(payload)
        return []

    def finish(self):
        """Close the segment at the end, and return its decoded pictures."""
        self._close_picture()
        closed = [] if self._segment is None else self._segment.shown_pictures()
        self._segment = None
        return closed

    def _take_slice(self, payload):
        if self._header is None:
            return
        settings = self._segment.settings
        found = slice_in(settings, payload)
        if found is None:
            return
        header, code = found
        if header.number == self._header.number and header.index not in self._slices:
            data = read_data(settings, self._header, header.index, code, delta=header.delta)
            self._slices[header.index] = data

    def _close_picture(self):
        if self._header is None:
            return
        segment = self._segment
        planes = rebuild_picture(
            segment.settings, self._header, self._slices, segment.slots, previous=segment.previous,
        )
        segment.keep(self._header, planes)
        complete = len(self._slices) == segment.settings.slices()
        segment.show(self._header, planes, complete)
        self._header = None
        self._slices = {}


def decode_stream(octets):
    """Return the decoded pictures of any octets."""
    decoder = StreamDecoder()
    pictures = []
    for _, kind, payload in read_units(octets):
        pictures.extend(decoder.take(kind, payload))
    return pictures + decoder.finish()
