"""Formats, frames and coded planes (points 4 to 6)."""

from thaumatrope.errors import BadFormat, BadFrame, OutOfRange

# The width and height of a block of luma samples.
BLOCK = 8


class Format:
    """The size of pictures, the depth of their samples and the kind of their chroma planes."""

    def __init__(self, width, height, *, depth=8, chroma=0):
        if not (1 <= width <= 256 and 1 <= height <= 256):
            raise BadFormat("width and height are from 1 to 256")
        if not 8 <= depth <= 12:
            raise BadFormat("the depth is from 8 to 12")
        if not 0 <= chroma <= 2:
            raise BadFormat("the chroma kind is from 0 to 2")
        self.width = width
        self.height = height
        self.depth = depth
        self.chroma = chroma

    def __eq__(self, other):
        return (
            isinstance(other, Format)
            and self.width == other.width
            and self.height == other.height
            and self.depth == other.depth
            and self.chroma == other.chroma
        )

    @property
    def planes(self):
        """The number of planes of a frame."""
        return 1 if self.chroma == 0 else 3

    @property
    def middle(self):
        """The sample in the middle of the range."""
        return 1 << (self.depth - 1)

    @property
    def top(self):
        """The greatest sample."""
        return (1 << self.depth) - 1

    def size(self, plane):
        """Return the width and height of the plane with this index."""
        return self._plane_size(plane, self.width, self.height)

    def coded_size(self, plane):
        """Return the coded width and height of the plane with this index."""
        columns, rows = self.blocks()
        return self._plane_size(plane, columns * BLOCK, rows * BLOCK)

    def blocks(self):
        """Return the numbers of columns and of rows of blocks."""
        return (self.width + BLOCK - 1) // BLOCK, (self.height + BLOCK - 1) // BLOCK

    def text(self):
        """Return the written form."""
        return f"{self.width}x{self.height}:{self.depth}:{self.chroma}"

    @classmethod
    def parse(cls, text):
        """Return the format whose written form is the text."""
        width, height, depth, chroma = _numbers_in(text)
        made = cls(width, height, depth=depth, chroma=chroma)
        if made.text() != text:
            raise BadFormat("the text is not the written form of a format")
        return made

    def _plane_size(self, plane, width, height):
        if not 0 <= plane < self.planes:
            raise OutOfRange("there is no such plane")
        if plane > 0 and self.chroma == 1:
            return (width + 1) // 2, (height + 1) // 2
        return width, height


def _numbers_in(text):
    """Return the four numbers of a text, which may still have wrong separators or leading zeros."""
    words = text.replace("x", ":").split(":")
    if len(words) != 4:
        raise BadFormat("a format has four numbers")
    # Longer words are refused unread: Python refuses very long ones with an error of its own.
    if any([not word.isdecimal() or len(word) > 3 for word in words]):
        raise BadFormat("a number of a format has one to three digits")
    return [int(word) for word in words]


def flat_frame(fmt, value=None):
    """Return the frame whose samples are all equal to value, or to the middle."""
    sample = fmt.middle if value is None else value
    if not 0 <= sample <= fmt.top:
        raise OutOfRange("the value is not a sample of the format")
    frame = []
    for width, height in _sizes(fmt):
        frame.append([[sample] * width for _ in range(height)])
    return frame


def check_frame(fmt, frame):
    """Raise BadFrame unless the frame is one of the format."""
    _check_shape(frame, _sizes(fmt))
    for plane in frame:
        for row in plane:
            if min(row) < 0 or max(row) > fmt.top:
                raise BadFrame("a sample is not one of the format")


def pad_frame(fmt, frame):
    """Return the coded planes of a frame."""
    check_frame(fmt, frame)
    return [_pad_plane(plane, size) for plane, size in zip(frame, _coded_sizes(fmt))]


def crop_planes(fmt, planes):
    """Return the frame that coded planes contain."""
    _check_shape(planes, _coded_sizes(fmt))
    return [_crop_plane(plane, size) for plane, size in zip(planes, _sizes(fmt))]


def copy_planes(planes):
    """Return the same planes in new lists."""
    return [[list(row) for row in plane] for plane in planes]


def squared_error(fmt, first, second):
    """Return the sum of the squared differences of all samples of two frames."""
    check_frame(fmt, first)
    check_frame(fmt, second)
    total = 0
    for one, other in zip(first, second):
        for row, twin in zip(one, other):
            total += sum([(a - b) ** 2 for a, b in zip(row, twin)])
    return total


def _sizes(fmt):
    return [fmt.size(plane) for plane in range(fmt.planes)]


def _coded_sizes(fmt):
    return [fmt.coded_size(plane) for plane in range(fmt.planes)]


def _check_shape(planes, sizes):
    """Raise BadFrame unless there is one plane of each size."""
    if len(planes) != len(sizes):
        raise BadFrame("the number of planes is wrong")
    for plane, (width, height) in zip(planes, sizes):
        if len(plane) != height:
            raise BadFrame("the number of rows is wrong")
        if any([len(row) != width for row in plane]):
            raise BadFrame("the number of samples in a row is wrong")


def _pad_plane(plane, size):
    width, height = size
    rows = [row + [row[-1]] * (width - len(row)) for row in plane]
    below = [list(rows[-1]) for _ in range(height - len(rows))]
    return rows + below


def _crop_plane(plane, size):
    width, height = size
    return [row[:width] for row in plane[:height]]
