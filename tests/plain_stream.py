"""Streams in the words of points 56 to 60, for comparison with those of the program, and pictures to write."""

from tests.plain_picture import plain_picture, plain_slice_rows
from tests.plain_syntax import random_data
from thaumatrope.errors import BadHeader
from thaumatrope.headers import (
    PictureHeader, SliceHeader, read_picture, read_settings, read_slice, write_picture, write_settings, write_slice,
)
from thaumatrope.syntax import read_data, write_data
from thaumatrope.units import read_units, write_unit


def read_or_none(read, *arguments):
    """What a function returns, or None if it raises BadHeader."""
    try:
        return read(*arguments)
    except BadHeader:
        return None


def cropped(fmt, planes):
    """The frame within coded planes."""
    sizes = [fmt.size(plane) for plane in range(len(planes))]
    return [[row[:width] for row in plane[:height]] for plane, (width, height) in zip(planes, sizes)]


class PlainDecoder:
    """The decoder of points 56 and 57: every state in an attribute."""

    def __init__(self):
        self.settings = self.header = self.previous = None
        self.slices, self.slots, self.shown = {}, [], {}

    def close_picture(self):
        if self.header is None:
            return
        planes = plain_picture(self.settings, self.header, self.slices, self.slots, self.previous)
        self.previous = planes
        for slot in self.header.store:
            self.slots[slot] = planes
        if self.header.shown:
            complete = set(self.slices) == set(range(len(plain_slice_rows(self.settings))))
            self.shown[self.header.number] = (self.header.number, cropped(self.settings.fmt, planes), complete)
        self.header = None

    def close_segment(self):
        self.close_picture()
        pictures = [self.shown[number] for number in sorted(self.shown)]
        self.shown = {}
        return pictures

    def take(self, kind, payload):
        if kind == 1:
            pictures = self.close_segment()
            self.settings = read_or_none(read_settings, payload)
            self.slots, self.previous = [None] * 4, None
            return pictures
        if kind == 4:
            pictures = self.close_segment()
            self.settings = None
            return pictures
        if kind == 2:
            self.close_picture()
            if self.settings is not None:
                self.header, self.slices = read_or_none(read_picture, self.settings, payload), {}
        if kind == 3 and self.header is not None:
            found = read_or_none(read_slice, self.settings, payload)
            if found and found[0].number == self.header.number and found[0].index not in self.slices:
                head, code = found
                self.slices[head.index] = read_data(self.settings, self.header, head.index, code, delta=head.delta)
        return []


def plain_decode(octets):
    """The decoded pictures of any octets."""
    decoder = PlainDecoder()
    pictures = []
    for _, kind, payload in list(read_units(octets)):
        pictures += decoder.take(kind, payload)
    return pictures + decoder.close_segment()


def slice_payload(settings, header, index, data):
    """The payload of a slice unit."""
    head = SliceHeader(settings, number=header.number, index=index, delta=data[0])
    return write_slice(settings, head, write_data(settings, header, index, data))


def plain_units(settings, pictures):
    """The units of a stream (point 60), without the end unit."""
    units = [(1, write_settings(settings))]
    for header, slices in pictures:
        units.append((2, write_picture(settings, header)))
        units += [(3, slice_payload(settings, header, index, data)) for index, data in enumerate(slices)]
    return units


def plain_stream(settings, pictures):
    stream = []
    for kind, payload in plain_units(settings, pictures) + [(4, [])]:
        stream += write_unit(kind, payload)
    return stream


def random_header(chance, settings, number, kind=None, **more):
    """A valid header for a picture."""
    kind = kind or chance.choice("IPB")
    slots = range(settings.slots)
    refs = {"I": [], "P": [chance.choice(slots) for _ in range(chance.choice((1, 2)))]}
    values = {
        "level": chance.choice((0, chance.randrange(32), chance.randrange(32))),
        "store": [slot for slot in slots if chance.randrange(2)],
        "refs": refs.get(kind, [chance.choice(slots), chance.choice(slots)]),
        "weight": chance.randrange(17) if kind == "B" else 8,
        "layer": chance.randrange(settings.layers),
        "shown": chance.randrange(5) > 0,
        "edge": chance.randint(-6, 6) if settings.deblock else 0,
    }
    values.update(more)
    return PictureHeader(settings, number=number, kind=kind, **values)


def random_slices(chance, settings, header, most=60):
    """Valid data for each slice of a picture."""
    columns = (settings.fmt.width + 7) // 8
    return [random_data(chance, settings, header, columns * len(rows), most) for rows in plain_slice_rows(settings)]


def random_pictures(chance, settings, count):
    """Valid pictures with different numbers, of which the first ones are of each kind."""
    numbers = chance.sample(range(1000), count)
    kinds = ["I", "P", "B"] + [None] * count
    headers = [random_header(chance, settings, number, kind) for number, kind in zip(numbers, kinds)]
    return [(header, random_slices(chance, settings, header)) for header in headers]
