"""The prediction of motion in the words of points 28 and 29, for comparison with that of the program.

The motions that are kept are a dict from tuples (x, y), the quarters of a slice, to motions.
"""

QUARTERS = [(0, 0), (1, 0), (0, 1), (1, 1)]


def quarters_of(column, row):
    """The quarters of a block in the order of its motions."""
    return [(2 * column + right, 2 * row + down) for right, down in QUARTERS]


def plain_predicted(kept, x, y, second=False):
    """The predicted first or second vector of a quarter."""
    vectors = []
    for place in ((x - 1, y), (x, y - 1), (x - 1, y - 1)):
        motion = kept.get(place)
        vector = None if motion is None else motion[3 if second else 2]
        vectors.append((0, 0) if vector is None else vector)
    return tuple(sorted(vector[component] for vector in vectors)[1] for component in (0, 1))


def plain_skipped(kept, column, row, kind):
    """The motion of a skipped block."""
    p = plain_predicted(kept, 2 * column, 2 * row)
    q = plain_predicted(kept, 2 * column, 2 * row, second=True)
    return (0, 0, p, None) if kind == "P" else (2, 0, p, q)


def random_vector(chance, most=1023):
    return chance.randint(-most, most), chance.randint(-most, most)


def random_motion(chance, header, most=1023):
    """A valid motion for a picture with this header, with components up to most."""
    if header.kind == "P":
        return 0, chance.randrange(len(header.refs)), random_vector(chance, most), None
    direction = chance.randrange(3)
    first = random_vector(chance, most) if direction != 1 else None
    second = random_vector(chance, most) if direction != 0 else None
    return direction, 0, first, second
