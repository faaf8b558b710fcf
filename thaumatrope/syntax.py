"""The code of a slice (points 43 to 46)."""

from thaumatrope.coder import Decoder, Encoder
from thaumatrope.contexts import CHROMA, CODED, INTRA, MODE, OFFSET, SIZE, SKIP, SPLIT
from thaumatrope.data import check_slice, level_shape
from thaumatrope.residue import SIZES_BY_COUNT, get_levels, put_levels
from thaumatrope.symbols import SymbolReader, SymbolWriter
from thaumatrope.vectors import read_motion, write_motion
from thaumatrope.walk import SliceWalk

# Offsets are coded from 0 on: the least one is this one below 0.
LEAST_OFFSET = -7
OFFSETS = 15


def write_data(settings, header, index, data):
    """Return the code of the data of a slice."""
    check_slice(settings, header, index, data)
    _, offsets, blocks = data
    encoder = Encoder()
    writer = SymbolWriter(encoder)
    if settings.offset:
        for item in offsets:
            _put_offset(writer, item)
    walk = SliceWalk(settings, header, index)
    for block in blocks:
        _put_block(writer, settings.fmt, header, walk, block)
        walk.step(block)
    return encoder.octets()


def read_data(settings, header, index, code, *, delta=0):
    """Return the data of the slice that has this code."""
    columns, _ = settings.fmt.blocks()
    _, rows = settings.slice_rows(index)
    reader = SymbolReader(Decoder(code))
    offsets = [None] * settings.fmt.planes
    if settings.offset:
        offsets = [_get_offset(reader) for _ in offsets]
    walk = SliceWalk(settings, header, index)
    blocks = []
    for _ in range(columns * rows):
        block = _get_block(reader, settings.fmt, header, walk)
        walk.step(block)
        blocks.append(block)
    return delta, offsets, blocks


def _put_offset(writer, item):
    writer.flag(OFFSET, item is not None)
    if item is not None:
        direction, values = item
        writer.choice(OFFSET + 1, direction, count=4)
        for value in values:
            writer.choice(OFFSET + 4, value - LEAST_OFFSET, count=OFFSETS)


def _get_offset(reader):
    if not reader.flag(OFFSET):
        return None
    direction = reader.choice(OFFSET + 1, count=4)
    values = [reader.choice(OFFSET + 4, count=OFFSETS) + LEAST_OFFSET for _ in range(4)]
    return direction, values


def _put_block(writer, fmt, header, walk, block):
    name = block[0]
    if header.kind != "I":
        writer.flag(SKIP + walk.near("skip"), name == "skip")
        if name == "skip":
            return
        writer.flag(INTRA + walk.near("intra"), name == "intra")
    if name == "intra":
        _, modes, chroma_mode, levels = block
        _put_modes(writer, fmt, modes, chroma_mode)
    else:
        _, motions, size, levels = block
        _put_motions(writer, header, walk, motions)
        writer.flag(SIZE, size == 4)
    _put_residue(writer, levels)


def _get_block(reader, fmt, header, walk):
    if header.kind != "I" and reader.flag(SKIP + walk.near("skip")):
        return ("skip",)
    if header.kind == "I" or reader.flag(INTRA + walk.near("intra")):
        modes, chroma_mode = _get_modes(reader, fmt)
        size = 8 if len(modes) == 1 else 4
        return "intra", modes, chroma_mode, _get_residue(reader, fmt, size)
    motions = _get_motions(reader, header, walk)
    size = 4 if reader.flag(SIZE) else 8
    return "inter", motions, size, _get_residue(reader, fmt, size)


def _put_modes(writer, fmt, modes, chroma_mode):
    writer.flag(SPLIT, len(modes) == 4)
    for mode in modes:
        writer.choice(MODE, mode, count=8)
    if fmt.chroma != 0:
        writer.choice(CHROMA, chroma_mode, count=4)


def _get_modes(reader, fmt):
    count = 4 if reader.flag(SPLIT) else 1
    modes = [reader.choice(MODE, count=8) for _ in range(count)]
    chroma_mode = 0
    if fmt.chroma != 0:
        chroma_mode = reader.choice(CHROMA, count=4)
    return modes, chroma_mode


# Each motion is kept as soon as it is coded: the next one of the same block is predicted from it.


def _put_motions(writer, header, walk, motions):
    writer.flag(SPLIT + 1, len(motions) == 4)
    for place, motion in enumerate(motions):
        x, y = walk.quarter(place)
        write_motion(writer, header, walk.grid, x, y, motion)
        walk.grid.keep_quarter(x, y, motion)


def _get_motions(reader, header, walk):
    count = 4 if reader.flag(SPLIT + 1) else 1
    motions = []
    for place in range(count):
        x, y = walk.quarter(place)
        motion = read_motion(reader, header, walk.grid, x, y)
        walk.grid.keep_quarter(x, y, motion)
        motions.append(motion)
    return motions


# The planes of chroma are counted together.


def _put_residue(writer, levels):
    counts = [0, 0]
    for plane, blocks in enumerate(levels):
        chroma = min(plane, 1)
        for block in blocks:
            coded = any(block)
            writer.flag(_coded_context(chroma, counts[chroma]), coded)
            if coded:
                put_levels(writer, block)
                counts[chroma] += 1


def _get_residue(reader, fmt, size):
    counts = [0, 0]
    levels = []
    for plane, (count, length) in enumerate(level_shape(fmt, size)):
        chroma = min(plane, 1)
        blocks = []
        for _ in range(count):
            coded = reader.flag(_coded_context(chroma, counts[chroma]))
            block = get_levels(reader, SIZES_BY_COUNT[length]) if coded else [0] * length
            counts[chroma] += 1 if coded else 0
            blocks.append(block)
        levels.append(blocks)
    return levels


def _coded_context(chroma, count):
    """Return the context of the flag of a transform block behind count coded ones."""
    return CODED + 3 * chroma + min(2, count)
