"""Layers of pictures, and dropping of the upper ones (points 67 and 68)."""

from thaumatrope.headers import END, PICTURE, SEQUENCE, SLICE
from thaumatrope.payloads import picture_in, settings_after
from thaumatrope.units import read_units


def is_layered(settings, headers):
    """Return True if each picture refers to pictures of the same or a smaller layer only."""
    # A slot that contains nothing is as good as one of the least layer.
    layers = [0] * settings.slots
    for header in headers:
        if any([layers[slot] > header.layer for slot in header.refs]):
            return False
        for slot in header.store:
            layers[slot] = header.layer
    return True


def drop_layers(octets, most):
    """Return the octets without the pictures of layers above most."""
    kept = []
    place = 0
    settings = None
    drops_unit = False
    drops_slices = False
    for start, kind, payload in read_units(octets):
        # The unit in front of this one is complete.
        if not drops_unit:
            kept.extend(octets[place:start])
        place = start
        if kind in (SEQUENCE, PICTURE, END):
            drops_slices = kind == PICTURE and _is_above(settings, payload, most)
        drops_unit = drops_slices and kind in (PICTURE, SLICE)
        settings = settings_after(settings, kind, payload)
    return kept if drops_unit else kept + octets[place:]


def _is_above(settings, payload, most):
    """Return True if a picture unit has a valid header of a layer above most."""
    header = picture_in(settings, payload)
    return header is not None and header.layer > most
