"""What the payloads of units mean, valid or not (points 56, 67 and 71)."""

from thaumatrope.errors import BadHeader
from thaumatrope.headers import END, SEQUENCE, read_picture, read_settings, read_slice


def settings_in(payload):
    """Return the settings of a sequence unit, or None if it has none."""
    try:
        return read_settings(payload)
    except BadHeader:
        return None


def picture_in(settings, payload):
    """Return the header of a picture unit, or None if it has none or there are no settings."""
    if settings is None:
        return None
    try:
        return read_picture(settings, payload)
    except BadHeader:
        return None


def slice_in(settings, payload):
    """Return (header, code) of a slice unit, or None if it has no header or there are no settings."""
    if settings is None:
        return None
    try:
        return read_slice(settings, payload)
    except BadHeader:
        return None


def settings_after(settings, kind, payload):
    """Return the settings, or None, behind a unit, if these are the settings in front of it."""
    if kind == SEQUENCE:
        return settings_in(payload)
    return None if kind == END else settings
