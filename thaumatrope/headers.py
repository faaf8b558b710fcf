"""Settings, headers of pictures and slices, and their payloads (points 18 to 22)."""

from thaumatrope.arithmetic import clip
from thaumatrope.bits import BitReader, BitWriter
from thaumatrope.errors import BadFormat, BadHeader, BadOctets, OutOfBits, OutOfRange
from thaumatrope.frames import Format

# The kinds of units.
SEQUENCE = 1
PICTURE = 2
SLICE = 3
END = 4
NOTE = 5
VERSION = 1
# A payload has the place of the kind in this tuple.
KINDS = ("I", "P", "B")
REF_COUNTS = {"I": (0,), "P": (1, 2), "B": (2,)}
EVEN_WEIGHT = 8
GREATEST_NUMBER = 999
GREATEST_LEVEL = 31


class Settings:
    """What holds for all pictures of a sequence."""

    def __init__(self, fmt, *, slots=1, rows=1, deblock=False, offset=False, layers=1):
        _require(1 <= slots <= 4, "there are 1 to 4 slots")
        _require(1 <= rows <= 32, "a slice has 1 to 32 rows of blocks")
        _require(1 <= layers <= 4, "there are 1 to 4 layers")
        self.fmt = fmt
        self.slots = slots
        self.rows = rows
        self.deblock = deblock
        self.offset = offset
        self.layers = layers

    def __eq__(self, other):
        return (
            isinstance(other, Settings)
            and self.fmt == other.fmt
            and self.slots == other.slots
            and self.rows == other.rows
            and self.deblock == other.deblock
            and self.offset == other.offset
            and self.layers == other.layers
        )

    def slices(self):
        """Return the number of slices of a picture."""
        _, rows = self.fmt.blocks()
        return (rows + self.rows - 1) // self.rows

    def slice_rows(self, index):
        """Return the first row of blocks of a slice, and the number of its rows."""
        if not 0 <= index < self.slices():
            raise OutOfRange("there is no such slice")
        _, rows = self.fmt.blocks()
        first = index * self.rows
        return first, min(self.rows, rows - first)


class PictureHeader:
    """What holds for all slices of a picture."""

    def __init__(self, settings, *, number, kind="I", level=0, store=(), refs=(),
                 weight=8, layer=0, shown=True, edge=0):
        self.number = number
        self.kind = kind
        self.level = level
        self.store = list(store)
        self.refs = list(refs)
        self.weight = weight
        self.layer = layer
        self.shown = shown
        self.edge = edge
        _check_numbers(settings, self)
        _check_slots(settings, self)

    def __eq__(self, other):
        return (
            isinstance(other, PictureHeader)
            and self.number == other.number
            and self.kind == other.kind
            and self.level == other.level
            and self.store == other.store
            and self.refs == other.refs
            and self.weight == other.weight
            and self.layer == other.layer
            and self.shown == other.shown
            and self.edge == other.edge
        )


class SliceHeader:
    """What holds for all blocks of a slice."""

    def __init__(self, settings, *, number, index, delta=0):
        _require(0 <= number <= GREATEST_NUMBER, "the number of a picture is from 0 to 999")
        _require(0 <= index < settings.slices(), "there is no such slice")
        _require(-GREATEST_LEVEL <= delta <= GREATEST_LEVEL, "delta is from -31 to 31")
        self.number = number
        self.index = index
        self.delta = delta

    def __eq__(self, other):
        return (
            isinstance(other, SliceHeader)
            and self.number == other.number
            and self.index == other.index
            and self.delta == other.delta
        )


def slice_level(picture_header, slice_header):
    """Return the quantization level of a slice."""
    return level_with(picture_header, slice_header.delta)


def level_with(picture_header, delta):
    """Return the quantization level of a slice with this delta."""
    return clip(picture_header.level + delta, 0, GREATEST_LEVEL)


def write_settings(settings):
    """Return the payload of a sequence unit."""
    fmt = settings.fmt
    writer = BitWriter()
    writer.put(VERSION, 8)
    for number in (fmt.width - 1, fmt.height - 1, fmt.depth - 8, fmt.chroma):
        writer.put_ue(number)
    writer.put_ue(settings.slots - 1)
    writer.put_ue(settings.rows - 1)
    _put_switch(writer, settings.deblock)
    _put_switch(writer, settings.offset)
    writer.put_ue(settings.layers - 1)
    return writer.octets()


def write_picture(settings, header):
    """Return the payload of a picture unit."""
    writer = BitWriter()
    writer.put_ue(header.number)
    writer.put_ue(KINDS.index(header.kind))
    writer.put_ue(header.level)
    for slot in range(settings.slots):
        _put_switch(writer, slot in header.store)
    if header.kind == "P":
        _put_switch(writer, len(header.refs) == 2)
    for slot in header.refs:
        writer.put(slot, 2)
    if header.kind == "B":
        writer.put_ue(header.weight)
    writer.put_ue(header.layer)
    _put_switch(writer, header.shown)
    if settings.deblock:
        writer.put_se(header.edge)
    return writer.octets()


def write_slice(settings, header, code):
    """Return the payload of a slice unit with the code of the slice."""
    writer = BitWriter()
    writer.put_ue(header.number)
    writer.put_ue(header.index)
    writer.put_se(header.delta)
    head = writer.octets()
    return [len(head)] + head + code


def read_settings(payload):
    """Return the settings that a payload has."""
    try:
        reader = BitReader(payload)
        settings = _get_settings(reader)
    except (BadOctets, OutOfBits, BadFormat):
        raise BadHeader("the payload is no sequence header") from None
    _require(reader.left == 0, "bits are left over")
    return settings


def read_picture(settings, payload):
    """Return the picture header that a payload has."""
    try:
        reader = BitReader(payload)
        header = _get_picture(settings, reader)
    except (BadOctets, OutOfBits):
        raise BadHeader("the payload is no picture header") from None
    _require(reader.left == 0, "bits are left over")
    return header


def read_slice(settings, payload):
    """Return the slice header that a payload has, and the code behind it."""
    end = payload[0] + 1 if payload else 1
    _require(end <= len(payload), "the slice header is not complete")
    try:
        reader = BitReader(payload[1:end])
        header = _get_slice(settings, reader)
    except (BadOctets, OutOfBits):
        raise BadHeader("the payload has no slice header") from None
    _require(reader.left == 0, "bits are left over")
    return header, payload[end:]


def _require(holds, text):
    if not holds:
        raise BadHeader(text)


def _check_numbers(settings, header):
    _require(0 <= header.number <= GREATEST_NUMBER, "the number of a picture is from 0 to 999")
    _require(header.kind in KINDS, "the kind of a picture is I, P or B")
    _require(0 <= header.level <= GREATEST_LEVEL, "the level is from 0 to 31")
    _require(0 <= header.weight <= 16, "the weight is from 0 to 16")
    _require(header.weight == EVEN_WEIGHT or header.kind == "B", "only B pictures have a weight")
    _require(0 <= header.layer < settings.layers, "the layer is below the number of layers")
    _require(-6 <= header.edge <= 6, "the edge is from -6 to 6")
    _require(header.edge == 0 or settings.deblock, "there is no edge without the filter")


def _check_slots(settings, header):
    for slot in header.store + header.refs:
        _require(0 <= slot < settings.slots, "there is no such slot")
    ascending = sorted(set(header.store))
    _require(header.store == ascending, "the slots of store ascend without duplicates")
    counts = REF_COUNTS[header.kind]
    _require(len(header.refs) in counts, "the number of refs does not belong to the kind")


def _put_switch(writer, switch):
    writer.put(1 if switch else 0, 1)


def _get_switch(reader):
    return reader.get(1) == 1


def _get_settings(reader):
    _require(reader.get(8) == VERSION, "the version is unknown")
    width = reader.get_ue() + 1
    height = reader.get_ue() + 1
    depth = reader.get_ue() + 8
    fmt = Format(width, height, depth=depth, chroma=reader.get_ue())
    slots = reader.get_ue() + 1
    rows = reader.get_ue() + 1
    deblock = _get_switch(reader)
    offset = _get_switch(reader)
    layers = reader.get_ue() + 1
    return Settings(fmt, slots=slots, rows=rows, deblock=deblock, offset=offset, layers=layers)


def _get_picture(settings, reader):
    number = reader.get_ue()
    place = reader.get_ue()
    _require(place < len(KINDS), "the kind of the picture is unknown")
    kind = KINDS[place]
    level = reader.get_ue()
    store = [slot for slot in range(settings.slots) if _get_switch(reader)]
    refs = [reader.get(2) for _ in range(_get_ref_count(kind, reader))]
    weight = reader.get_ue() if kind == "B" else EVEN_WEIGHT
    layer = reader.get_ue()
    shown = _get_switch(reader)
    edge = reader.get_se() if settings.deblock else 0
    return PictureHeader(settings, number=number, kind=kind, level=level, store=store,
                         refs=refs, weight=weight, layer=layer, shown=shown, edge=edge)


def _get_ref_count(kind, reader):
    if kind == "P":
        return 1 + reader.get(1)
    return 2 if kind == "B" else 0


def _get_slice(settings, reader):
    number = reader.get_ue()
    index = reader.get_ue()
    delta = reader.get_se()
    return SliceHeader(settings, number=number, index=index, delta=delta)
