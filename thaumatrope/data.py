"""The form of picture data (points 23 to 25)."""

from thaumatrope.errors import BadData, OutOfRange

# The number of items of a block, its name included.
BLOCK_ITEMS = {"skip": 1, "intra": 4, "inter": 4}
GREATEST_DELTA = 31
GREATEST_COMPONENT = 1023
LEAST_LEVEL = -524288
GREATEST_LEVEL = 524287


def level_shape(fmt, size):
    """Return (count, length) for each plane: the number of transform blocks, and of levels of each."""
    if size not in (4, 8):
        raise OutOfRange("a transform size is 8 or 4")
    whole = (1, 64) if size == 8 else (4, 16)
    chroma = (1, 16) if fmt.chroma == 1 else whole
    return [whole] + [chroma] * (fmt.planes - 1)


def zero_levels(fmt, size):
    """Return levels that are all 0."""
    return [[[0] * length for _ in range(count)] for count, length in level_shape(fmt, size)]


def check_block(settings, header, block):
    """Raise BadData unless the block is valid in a picture with this header."""
    name = block[0] if block else ""
    _require(name in BLOCK_ITEMS, "a block is called skip, intra or inter")
    _require(len(block) == BLOCK_ITEMS[name], "the number of items of a block is wrong")
    _require(name == "intra" or header.kind != "I", "an I picture has intra blocks only")
    if name == "intra":
        _check_intra(settings.fmt, block)
    if name == "inter":
        _check_inter(settings.fmt, header, block)


def check_slice(settings, header, index, data):
    """Raise BadData unless the data are valid for the slice with this index."""
    _, rows = settings.slice_rows(index)
    columns, _ = settings.fmt.blocks()
    _require(len(data) == 3, "the data of a slice are delta, offsets and blocks")
    delta, offsets, blocks = data
    _require(_is_number(delta, -GREATEST_DELTA, GREATEST_DELTA), "delta is from -31 to 31")
    _require(_is_list(offsets, settings.fmt.planes), "each plane has an item of offsets")
    for item in offsets:
        _check_offset(settings, item)
    _require(_is_list(blocks, columns * rows), "the number of blocks is wrong")
    for block in blocks:
        check_block(settings, header, block)


def _require(holds, text):
    if not holds:
        raise BadData(text)


# The checks of parts look at the kinds of values, too: the parts of a block that has
# another name are of other kinds, and that must end in BadData.


def _is_number(value, low, high):
    return isinstance(value, int) and low <= value <= high


def _is_list(value, count):
    return isinstance(value, list) and len(value) == count


def _is_tuple(value, count):
    return isinstance(value, tuple) and len(value) == count


def _are_numbers(values, count, low, high):
    return _is_list(values, count) and all([_is_number(value, low, high) for value in values])


def _check_offset(settings, item):
    if item is None:
        return
    _require(settings.offset, "there are no offsets without the filter")
    _require(_is_tuple(item, 2), "an item of offsets has a direction and values")
    direction, values = item
    _require(_is_number(direction, 0, 3), "the direction of offsets is from 0 to 3")
    _require(_are_numbers(values, 4, -7, 7), "the values of offsets are four from -7 to 7")


def _check_intra(fmt, block):
    _, modes, chroma_mode, levels = block
    whole = _are_numbers(modes, 1, 0, 7)
    _require(whole or _are_numbers(modes, 4, 0, 7), "an intra block has one or four modes")
    greatest = 0 if fmt.chroma == 0 else 3
    _require(_is_number(chroma_mode, 0, greatest), "there is no such chroma mode")
    _check_levels(fmt, 8 if whole else 4, levels)


def _check_inter(fmt, header, block):
    _, motions, size, levels = block
    _require(_is_list(motions, 1) or _is_list(motions, 4), "an inter block has one or four motions")
    for motion in motions:
        _check_motion(header, motion)
    _require(size in (4, 8), "a transform size is 8 or 4")
    _check_levels(fmt, size, levels)


def _check_motion(header, motion):
    _require(_is_tuple(motion, 4), "the number of items of a motion is wrong")
    direction, index, first, second = motion
    directions, indexes = (0, len(header.refs) - 1) if header.kind == "P" else (2, 0)
    _require(_is_number(direction, 0, directions), "there is no such direction of motion")
    _require(_is_number(index, 0, indexes), "there is no such reference index")
    _require(_is_vector(first, direction != 1), "the first vector is not valid")
    _require(_is_vector(second, direction != 0), "the second vector is not valid")


def _is_vector(vector, used):
    if not used:
        return vector is None
    return _is_tuple(vector, 2) and all([
        _is_number(component, -GREATEST_COMPONENT, GREATEST_COMPONENT) for component in vector
    ])


def _check_levels(fmt, size, levels):
    shape = level_shape(fmt, size)
    _require(_is_list(levels, len(shape)), "each plane has an item of levels")
    for blocks, (count, length) in zip(levels, shape):
        _require(_is_list(blocks, count), "the number of transform blocks is wrong")
        for block in blocks:
            valid = _are_numbers(block, length, LEAST_LEVEL, GREATEST_LEVEL)
            _require(valid, "the levels of a transform block are not valid")
