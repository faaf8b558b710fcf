"""The decisions of points 42, 44 and 45 as lists, for comparison with those of the program, and data to code.

A decision is a tuple (context, decision), or (None, decision) if it is even.
"""

from tests.plain_motion import plain_predicted, plain_skipped, quarters_of, random_motion
from tests.plain_symbols import plain_choice, plain_flag, plain_number, plain_signed
from thaumatrope.contexts import (
    CHROMA, CODED, DIRECTION, INDEX, INTRA, LAST, LEVEL, MODE, OFFSET, SIGNIFICANT, SIZE, SKIP, SPLIT, VECTOR_X,
    VECTOR_Y,
)

SHAPES = {
    (0, 8): [(1, 64)], (0, 4): [(4, 16)],
    (1, 8): [(1, 64), (1, 16), (1, 16)], (1, 4): [(4, 16), (1, 16), (1, 16)],
    (2, 8): [(1, 64), (1, 64), (1, 64)], (2, 4): [(4, 16), (4, 16), (4, 16)],
}
# The refs of pictures of each kind; "PP" is one with two.
KINDS = {"I": [], "P": [1], "PP": [2, 0], "B": [0, 3]}


def zeros(chroma, size):
    """The levels of a block without residue."""
    return [[[0] * length for _ in range(count)] for count, length in SHAPES[chroma, size]]


def plain_levels(levels):
    """The decisions for a transform block that contains a level other than 0."""
    steps = []
    count = len(levels)
    for i in range(count - 1):
        kind = i if count == 64 else 4 * i
        steps += plain_flag(SIGNIFICANT + kind, levels[i] != 0)
        if levels[i] != 0:
            ends = all(level == 0 for level in levels[i + 1:])
            steps += plain_flag(LAST + kind, ends)
            if ends:
                break
    coded = []
    for level in reversed(levels):
        if level != 0:
            base = LEVEL if all(size == 1 for size in coded) else LEVEL + 16
            steps += plain_number(base, abs(level) - 1) + [(None, 1 if level < 0 else 0)]
            coded.append(abs(level))
    return steps


def plain_motion(header, kept, x, y, motion):
    """The decisions for the motion of a quarter."""
    direction, index, first, second = motion
    steps = []
    if header.kind == "P" and len(header.refs) == 2:
        steps += plain_choice(INDEX, index, 2)
    if header.kind == "B":
        steps += plain_choice(DIRECTION, direction, 3)
    for vector, is_second in ((first, False), (second, True)):
        if vector is not None:
            p = plain_predicted(kept, x, y, is_second)
            steps += plain_signed(VECTOR_X, vector[0] - p[0]) + plain_signed(VECTOR_Y, vector[1] - p[1])
    return steps


def plain_offsets(offsets):
    steps = []
    for item in offsets:
        steps += plain_flag(OFFSET, item is not None)
        if item is not None:
            steps += plain_choice(OFFSET + 1, item[0], 4)
            for value in item[1]:
                steps += plain_choice(OFFSET + 4, value + 7, 15)
    return steps


def plain_coded(levels):
    """The decisions for the transform blocks of a block."""
    steps = []
    before = {0: 0, 1: 0}
    for plane, blocks in enumerate(levels):
        c = 0 if plane == 0 else 1
        for block in blocks:
            holds = any(level != 0 for level in block)
            steps += plain_flag(CODED + 3 * c + min(2, before[c]), holds)
            if holds:
                steps += plain_levels(block)
                before[c] += 1
    return steps


def plain_block_steps(fmt, header, kept, near, place, block):
    """The decisions for a block at a place (column, row); near are the names of its neighbours."""
    name = block[0]
    steps = []
    if header.kind != "I":
        steps += plain_flag(SKIP + near.count("skip"), name == "skip")
        if name == "skip":
            return steps
        steps += plain_flag(INTRA + near.count("intra"), name == "intra")
    steps += plain_flag(SPLIT if name == "intra" else SPLIT + 1, len(block[1]) == 4)
    if name == "intra":
        for mode in block[1]:
            steps += plain_choice(MODE, mode, 8)
        if fmt.chroma > 0:
            steps += plain_choice(CHROMA, block[2], 4)
    else:
        found = dict(kept)
        for (x, y), motion in zip(quarters_of(*place), block[1]):
            steps += plain_motion(header, found, x, y, motion)
            found[x, y] = motion
        steps += plain_flag(SIZE, block[2] == 4)
    return steps + plain_coded(block[3])


def motions_kept(header, kept, place, block):
    """The motions of the quarters of a block."""
    column, row = place
    if block[0] == "intra":
        return {}
    motions = block[1] if block[0] == "inter" else [plain_skipped(kept, column, row, header.kind)]
    return dict(zip(quarters_of(column, row), motions * (4 // len(motions))))


def plain_slice(settings, header, data):
    """The decisions for the data of a slice."""
    _, offsets, blocks = data
    columns = (settings.fmt.width + 7) // 8
    steps = plain_offsets(offsets) if settings.offset else []
    kept, names = {}, {}
    for number, block in enumerate(blocks):
        column, row = number % columns, number // columns
        near = [names[place] for place in ((column - 1, row), (column, row - 1)) if place in names]
        steps += plain_block_steps(settings.fmt, header, kept, near, (column, row), block)
        names[column, row] = block[0]
        kept.update(motions_kept(header, kept, (column, row), block))
    return steps


def random_level(chance):
    size = chance.choice((1, 1, 1, 2, 3, chance.randint(1, 40), chance.randint(1, 524287)))
    return chance.choice((size, -size))


def random_levels(chance, length, share):
    """A transform block in which about this share of the levels is not 0, in hundredths."""
    return [random_level(chance) if chance.randrange(100) < share else 0 for _ in range(length)]


def random_block_levels(chance, fmt, size):
    return [
        [random_levels(chance, length, chance.choice((0, 0, 3, 10, 90))) for _ in range(count)]
        for count, length in SHAPES[fmt.chroma, size]
    ]


def random_block(chance, fmt, header, most=1023):
    """A valid block for a picture with this header."""
    name = "intra" if header.kind == "I" else chance.choice(("skip", "intra", "inter", "inter"))
    if name == "skip":
        return ("skip",)
    count = chance.choice((1, 4))
    if name == "intra":
        modes = [chance.randrange(8) for _ in range(count)]
        chroma_mode = chance.randrange(4) if fmt.chroma > 0 else 0
        return name, modes, chroma_mode, random_block_levels(chance, fmt, 8 if count == 1 else 4)
    size = chance.choice((4, 8))
    motions = [random_motion(chance, header, chance.choice((2, 50, most))) for _ in range(count)]
    return name, motions, size, random_block_levels(chance, fmt, size)


def random_offsets(chance, settings):
    planes = 1 if settings.fmt.chroma == 0 else 3
    if not settings.offset:
        return [None] * planes
    return [
        chance.choice([None, (chance.randrange(4), [chance.randint(-7, 7) for _ in range(4)])])
        for _ in range(planes)
    ]


def random_data(chance, settings, header, count, most=1023):
    """Valid data for a slice of count blocks."""
    blocks = [random_block(chance, settings.fmt, header, most) for _ in range(count)]
    return chance.randint(-31, 31), random_offsets(chance, settings), blocks
