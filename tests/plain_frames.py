"""Frames to encode."""


def random_frame(chance, fmt):
    """A frame of any samples."""
    sizes = [fmt.size(plane) for plane in range(fmt.planes)]
    return [[[chance.randint(0, fmt.top) for _ in range(width)] for _ in range(height)] for width, height in sizes]


def moving_frame(chance, fmt, time):
    """A frame of a picture that moves, with some noise: encoding finds good predictions."""
    frame = []
    for plane in range(fmt.planes):
        width, height = fmt.size(plane)
        rows = []
        for y in range(height):
            rows.append([])
            for x in range(width):
                u, v = x + 2 * time, y - time
                sample = 20 * (u // 5 % 4) + 9 * (v // 3 % 5) + 2 * u + 30 * plane + chance.randint(0, 2)
                rows[-1].append(sample * 2 ** (fmt.depth - 8) % (fmt.top + 1))
        frame.append(rows)
    return frame
