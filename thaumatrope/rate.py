"""The size of pictures, and control of it (point 66)."""

from thaumatrope.encoder import write_one_picture
from thaumatrope.errors import CapacityTooSmall, OutOfRange
from thaumatrope.frames import pad_frame
from thaumatrope.headers import GREATEST_LEVEL, PictureHeader
from thaumatrope.making import PictureMaker, check_headers
from thaumatrope.search import check_weight, search_slices
from thaumatrope.segment import Segment


def picture_size(settings, header, slices):
    """Return the number of octets of the units of a picture."""
    return len(write_one_picture(settings, header, slices))


class Bucket:
    """A buffer that pictures enter, and that loses octets at a rate."""

    def __init__(self, *, rate, capacity):
        if rate < 0 or capacity < 0:
            raise OutOfRange("rate and capacity are not negative")
        self.rate = rate
        self.capacity = capacity
        self.fullness = 0

    def fits(self, size):
        """Return True if a picture of this size can enter."""
        return self.fullness + size <= self.capacity

    def enter(self, size):
        """Add a picture, then lose octets, and return the fullness between the two."""
        if not self.fits(size):
            raise CapacityTooSmall("the picture does not fit")
        full = self.fullness + size
        self.fullness = max(0, full - self.rate)
        return full


def control_frames(settings, frames, headers, *, weight=0, rate, capacity):
    """Return (pictures, trace): each picture has the least level with which it fits."""
    check_weight(weight)
    check_headers(frames, headers)
    bucket = Bucket(rate=rate, capacity=capacity)
    segment = Segment(settings)
    pictures = []
    trace = []
    for header in headers:
        source = pad_frame(settings.fmt, frames[header.number])
        maker, slices, size = _first_that_fits(segment, header, source, weight, bucket)
        segment.keep(maker.header, maker.finished_planes(slices))
        pictures.append((maker.header, slices))
        trace.append((maker.header.level, size, bucket.enter(size)))
    return pictures, trace


def _first_that_fits(segment, header, source, weight, bucket):
    """Return the maker, the slices and the size of a picture at the first level that is accepted."""
    for level in range(header.level, GREATEST_LEVEL + 1):
        tried = _at_level(segment.settings, header, level)
        maker = PictureMaker(segment, tried, source)
        slices = search_slices(maker, weight)
        size = picture_size(segment.settings, tried, slices)
        if bucket.fits(size):
            return maker, slices, size
    raise CapacityTooSmall("the picture fits at no level")


def _at_level(settings, header, level):
    """Return the header with another level."""
    return PictureHeader(
        settings, number=header.number, kind=header.kind, level=level, store=header.store,
        refs=header.refs, weight=header.weight, layer=header.layer, shown=header.shown,
        edge=header.edge,
    )
