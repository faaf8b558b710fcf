"""What the pictures of a segment leave behind (points 53 and 57)."""

from thaumatrope.frames import crop_planes


class Segment:
    """The slots, the previous picture, and the pictures that are shown."""

    def __init__(self, settings):
        self.settings = settings
        # The coded planes in the slots, or None. They are not modified.
        self.slots = [None] * settings.slots
        self.previous = None
        self._shown = {}

    def keep(self, header, planes):
        """Take the coded planes of the next picture, for the pictures behind it."""
        self.previous = planes
        for slot in header.store:
            self.slots[slot] = planes

    def show(self, header, planes, complete):
        """Take the frame of the next picture, if it is shown."""
        if header.shown:
            frame = crop_planes(self.settings.fmt, planes)
            self._shown[header.number] = (header.number, frame, complete)

    def shown_pictures(self):
        """Return the decoded pictures in ascending order of their numbers."""
        return [self._shown[number] for number in sorted(self._shown)]
