"""Streams of pictures, and encoding by choices (points 59 to 62)."""

from thaumatrope.choices import Choices
from thaumatrope.data import check_slice
from thaumatrope.errors import BadData
from thaumatrope.headers import (
    END, PICTURE, SEQUENCE, SLICE, SliceHeader, write_picture, write_settings, write_slice,
)
from thaumatrope.making import check_headers, check_numbers, make_pictures
from thaumatrope.picture import rebuild_picture
from thaumatrope.segment import Segment
from thaumatrope.syntax import write_data
from thaumatrope.units import write_units
from thaumatrope.vectors import clip_vector


def check_pictures(settings, pictures):
    """Raise BadData unless the pictures are valid."""
    check_numbers([header for header, _ in pictures])
    for header, slices in pictures:
        if len(slices) != settings.slices():
            raise BadData("the number of slices is wrong")
        for index, data in enumerate(slices):
            check_slice(settings, header, index, data)


def write_stream(settings, pictures):
    """Return the stream of pictures."""
    check_pictures(settings, pictures)
    stream = write_units([(SEQUENCE, write_settings(settings))])
    for header, slices in pictures:
        stream.extend(write_one_picture(settings, header, slices))
    return stream + write_units([(END, [])])


def write_one_picture(settings, header, slices):
    """Return the written forms of the units of a picture."""
    units = [(PICTURE, write_picture(settings, header))]
    for index, data in enumerate(slices):
        head = SliceHeader(settings, number=header.number, index=index, delta=data[0])
        code = write_data(settings, header, index, data)
        units.append((SLICE, write_slice(settings, head, code)))
    return write_units(units)


def rebuild_pictures(settings, pictures):
    """Return the decoded pictures that the stream of pictures has."""
    check_pictures(settings, pictures)
    segment = Segment(settings)
    for header, slices in pictures:
        planes = rebuild_picture(settings, header, dict(enumerate(slices)), segment.slots)
        segment.keep(header, planes)
        segment.show(header, planes, True)
    return segment.shown_pictures()


def encode_frames(settings, frames, headers, choices):
    """Return pictures with these headers, made by choices."""
    check_headers(frames, headers)
    taken = Choices(choices)

    def make_slices(maker):
        return [_encode_slice(maker, index, taken) for index in range(settings.slices())]

    return make_pictures(settings, frames, headers, make_slices)


def _encode_slice(maker, index, choices):
    """Return the data of a slice."""
    settings = maker.settings
    columns, _ = settings.fmt.blocks()
    _, rows = settings.slice_rows(index)
    delta = 0
    offsets = [None] * settings.fmt.planes
    if maker.header.level != 0:
        delta = choices.among(3) - 1
        if settings.offset:
            offsets = [_choose_offset(choices) for _ in offsets]
    block_maker = maker.start_slice(index, delta)
    blocks = []
    for _ in range(columns * rows):
        block = _encode_block(block_maker, settings.fmt, maker.header, choices)
        block_maker.builder.walk.step(block)
        blocks.append(block)
    return delta, offsets, blocks


def _choose_offset(choices):
    """Return an item of offsets."""
    if choices.among(4) != 1:
        return None
    direction = choices.among(4)
    return direction, [choices.among(15) - 7 for _ in range(4)]


def _encode_block(maker, fmt, header, choices):
    name = _choose_name(header, choices)
    if name == "skip":
        return maker.make(("skip",), 0)
    if name == "intra":
        plan = _choose_modes(fmt, choices)
    else:
        plan = _choose_motions(maker.builder.walk, header, choices)
    rounding = choices.among(9)
    return maker.make(plan, rounding)


def _choose_name(header, choices):
    if header.kind == "I":
        return "intra"
    names = ("inter", "intra") if header.level == 0 else ("inter", "intra", "skip")
    return names[choices.among(len(names))]


def _choose_modes(fmt, choices):
    """Return the plan of an intra block."""
    count = 4 if choices.among(2) == 1 else 1
    modes = [choices.among(8) for _ in range(count)]
    chroma_mode = 0 if fmt.chroma == 0 else choices.among(4)
    return "intra", modes, chroma_mode


def _choose_motions(walk, header, choices):
    """Return the plan of an inter block."""
    count = 4 if choices.among(2) == 1 else 1
    motions = []
    for place in range(count):
        x, y = walk.quarter(place)
        motion = _choose_motion(walk.grid, header, choices, x, y)
        # The next motion of the block is predicted from it.
        walk.grid.keep_quarter(x, y, motion)
        motions.append(motion)
    size = 4 if choices.among(2) == 1 else 8
    return "inter", motions, size


def _choose_motion(grid, header, choices, x, y):
    index = 0
    direction = 0
    if header.kind == "P":
        index = choices.among(len(header.refs))
    else:
        direction = choices.among(3)
    first = None
    second = None
    if direction != 1:
        first = _choose_vector(choices, grid.predicted(x, y))
    if direction != 0:
        second = _choose_vector(choices, grid.predicted(x, y, second=True))
    return direction, index, first, second


def _choose_vector(choices, predicted):
    x = predicted[0] + _choose_step(choices)
    y = predicted[1] + _choose_step(choices)
    return clip_vector(x, y)


def _choose_step(choices):
    """Return how far a component is from the predicted one: 0, 1, -1, 2, -2 and so on."""
    place = choices.among(33)
    return place // 2 + 1 if place & 1 == 1 else -(place // 2)
