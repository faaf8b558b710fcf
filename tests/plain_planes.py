"""Coded planes to work on."""


def side_of(fmt, plane):
    """The width and height of a block in a plane."""
    return 4 if plane > 0 and fmt.chroma == 1 else 8


def random_planes(chance, fmt):
    """Coded planes of a format."""
    planes = []
    for plane in range(fmt.planes):
        width, height = fmt.coded_size(plane)
        planes.append([[chance.randint(0, fmt.top) for _ in range(width)] for _ in range(height)])
    return planes


def flat_planes(fmt, value):
    """Coded planes in which every sample is the same."""
    sizes = [fmt.coded_size(plane) for plane in range(fmt.planes)]
    return [[[value] * width for _ in range(height)] for width, height in sizes]
