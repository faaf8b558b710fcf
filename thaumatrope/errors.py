"""The exceptions of the program."""


class CodecError(ValueError):
    """The base class of all exceptions that the program raises."""


class BadFormat(CodecError):
    """A number or a text that makes no format."""


class BadFrame(CodecError):
    """Planes that do not have the form that a format asks for."""


class OutOfRange(CodecError):
    """A number that is not in the range of its argument."""


class OutOfBits(CodecError):
    """Bits that end before the number that is read."""


class BadOctets(CodecError):
    """Octets that no bit writer gives."""


class BadHeader(CodecError):
    """Settings or a header that are not valid, or a payload that is none of theirs."""


class BadData(CodecError):
    """Picture data that are not valid."""


class BadContainer(CodecError):
    """Octets or entries that make no container."""


class BadCommand(CodecError):
    """A line that the desk does not execute."""


class CapacityTooSmall(CodecError):
    """A picture that does not fit at any level."""
