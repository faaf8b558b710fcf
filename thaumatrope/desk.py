"""A desk that executes commands (points 72 and 73)."""

from thaumatrope.decoder import decode_stream
from thaumatrope.encoder import encode_frames, write_stream
from thaumatrope.errors import BadCommand, BadData, BadFormat, BadFrame, BadHeader, OutOfRange
from thaumatrope.frames import Format, flat_frame, squared_error
from thaumatrope.headers import PictureHeader, Settings
from thaumatrope.report import report_stream
from thaumatrope.search import search_frames

# The number of words behind the word of each command; None for any number.
COUNTS = {
    "format": 9, "flat": 1, "ramp": 3, "intra": 2, "inter": 2, "encode": None, "search": 1,
    "damage": 2, "decode": 0, "units": 0,
}
MOST_DIGITS = 9
GREATEST_WEIGHT = 1000000
GREATEST_OCTET = 255


class Desk:
    """Has settings, frames, headers and a stream."""

    def __init__(self):
        self._settings = None
        self._frames = []
        self._headers = []
        self._stream = []

    def run(self, line):
        """Execute a command, and return its answer."""
        word, numbers = _command_of(line)
        if word == "format":
            return self._set_format(numbers)
        _require(self._settings is not None, "there is no format")
        if word in ("flat", "ramp"):
            return self._add_frame(_frame_of(self._settings.fmt, word, numbers))
        if word in ("intra", "inter"):
            self._headers.append(_header_of(self._settings, word, numbers))
            return "ok"
        if word in ("encode", "search"):
            return self._write(word, numbers)
        if word == "damage":
            return self._damage(numbers)
        answers = self._decoded() if word == "decode" else self._notes()
        return ", ".join(answers) if answers else "none"

    def _set_format(self, numbers):
        self._settings = _settings_of(numbers)
        self._frames = []
        self._headers = []
        self._stream = []
        return "ok"

    def _add_frame(self, frame):
        self._frames.append(frame)
        return str(len(self._frames) - 1)

    def _write(self, word, numbers):
        """Make pictures, write their stream, and return its length."""
        _require(word == "encode" or numbers[0] <= GREATEST_WEIGHT, "the weight is too great")
        _require(len(self._headers) > 0, "there are no headers")
        pictures = _pictures_of(self._settings, self._frames, self._headers, word, numbers)
        self._stream = write_stream(self._settings, pictures)
        return str(len(self._stream))

    def _damage(self, numbers):
        place, octet = numbers
        _require(octet <= GREATEST_OCTET, "the value is no octet")
        _require(place < len(self._stream), "the stream has no such octet")
        self._stream[place] = octet
        return "ok"

    def _decoded(self):
        """Return a text for each decoded picture."""
        texts = []
        for number, frame, complete in decode_stream(self._stream):
            _require(number < len(self._frames), "there is no frame for a picture")
            error = _error_of(self._settings.fmt, self._frames[number], frame)
            whole = 1 if complete else 0
            texts.append(f"{number} {whole} {error}")
        return texts

    def _notes(self):
        """Return the note of each unit."""
        return [note for _, _, _, note in report_stream(self._stream)]


def _require(holds, text):
    if not holds:
        raise BadCommand(text)


def _command_of(line):
    """Return the word of a command, and the numbers behind it."""
    _require(all([" " <= character <= "~" for character in line]), "a character is not allowed")
    words = line.split(" ")
    # Spaces at the ends and two spaces together make empty words, and so does an empty line.
    _require("" not in words, "words are separated by single spaces")
    word = words[0]
    _require(word in COUNTS, "the command is unknown")
    _require(COUNTS[word] in (None, len(words) - 1), "the number of words is wrong")
    return word, [_number_of(text) for text in words[1:]]


def _number_of(text):
    _require(text.isdecimal() and len(text) <= MOST_DIGITS, "a number has one to nine digits")
    _require(text == "0" or not text.startswith("0"), "a number has no leading zero")
    return int(text)


def _settings_of(numbers):
    width, height, depth, chroma, slots, rows, deblock, offset, layers = numbers
    _require(deblock <= 1 and offset <= 1, "a switch is 0 or 1")
    try:
        fmt = Format(width, height, depth=depth, chroma=chroma)
        return Settings(
            fmt, slots=slots, rows=rows, deblock=deblock == 1, offset=offset == 1, layers=layers,
        )
    except (BadFormat, BadHeader):
        raise BadCommand("the settings are not valid") from None


def _frame_of(fmt, word, numbers):
    if word == "ramp":
        return [_ramp_of(fmt, plane, numbers) for plane in range(fmt.planes)]
    try:
        return flat_frame(fmt, numbers[0])
    except OutOfRange:
        raise BadCommand("the value is not a sample") from None


def _ramp_of(fmt, plane, numbers):
    """Return the rows of a plane that ascends to the right and to the bottom."""
    right, down, first = numbers
    width, height = fmt.size(plane)
    count = fmt.top + 1
    return [
        [(right * i + down * j + first) % count for i in range(width)] for j in range(height)
    ]


def _header_of(settings, word, numbers):
    number, level = numbers
    kind = "I" if word == "intra" else "P"
    refs = [] if word == "intra" else [0]
    try:
        return PictureHeader(settings, number=number, kind=kind, level=level, store=[0], refs=refs)
    except BadHeader:
        raise BadCommand("the header is not valid") from None


def _pictures_of(settings, frames, headers, word, numbers):
    try:
        if word == "encode":
            return encode_frames(settings, frames, headers, numbers)
        return search_frames(settings, frames, headers, weight=numbers[0])
    except BadData:
        raise BadCommand("the headers do not belong to the frames") from None


def _error_of(fmt, source, frame):
    try:
        return squared_error(fmt, source, frame)
    except BadFrame:
        raise BadCommand("a decoded picture is not one of the format") from None
