"""Transforms in the words of points 36 to 40, for comparison with those of the program."""


def plain_split(a, b):
    return (a + b) // 2, a - b


def plain_join(low, high):
    a = low + (high + 1) // 2
    return a, a - high


def plain_turn(a, b, p, q):
    b = b + (p * a + 16) // 32
    a = a - (q * b + 16) // 32
    b = b + (p * a + 16) // 32
    return a, b


def plain_turn_back(a, b, p, q):
    b = b - (p * a + 16) // 32
    a = a + (q * b + 16) // 32
    b = b - (p * a + 16) // 32
    return a, b


def plain_forward(x):
    """The transform of four or eight integers: each step names what it makes."""
    v = {}
    if len(x) == 4:
        v["l0"], v["h0"] = plain_split(x[0], x[3])
        v["l1"], v["h1"] = plain_split(x[1], x[2])
        v["c0"], v["c2"] = plain_split(v["l0"], v["l1"])
        v["c1"], v["c3"] = plain_turn(v["h0"], v["h1"], 6, 12)
        return [v[name] for name in ("c0", "c1", "c2", "c3")]
    for k in range(4):
        v[f"l{k}"], v[f"h{k}"] = plain_split(x[k], x[7 - k])
    for k, e in enumerate(plain_forward([v["l0"], v["l1"], v["l2"], v["l3"]])):
        v[f"e{k}"] = e
    v["d0"], v["d3"] = plain_turn(v["h0"], v["h3"], 3, 6)
    v["d1"], v["d2"] = plain_turn(v["h1"], v["h2"], 10, 18)
    v["f0"], v["f1"] = plain_split(v["d0"], v["d1"])
    v["f2"], v["f3"] = plain_split(v["d2"], v["d3"])
    return [v[name] for name in "e0 f0 e1 f2 e2 f1 e3 f3".split()]


def plain_inverse(c):
    """The integers that have this transform: the steps of the transform, undone from the last to the first."""
    if len(c) == 4:
        l0, l1 = plain_join(c[0], c[2])
        h0, h1 = plain_turn_back(c[1], c[3], 6, 12)
        (x0, x3), (x1, x2) = plain_join(l0, h0), plain_join(l1, h1)
        return [x0, x1, x2, x3]
    v = dict(zip("e0 f0 e1 f2 e2 f1 e3 f3".split(), c))
    d2, d3 = plain_join(v["f2"], v["f3"])
    d0, d1 = plain_join(v["f0"], v["f1"])
    h1, h2 = plain_turn_back(d1, d2, 10, 18)
    h0, h3 = plain_turn_back(d0, d3, 3, 6)
    low = plain_inverse([v["e0"], v["e1"], v["e2"], v["e3"]])
    x = [0] * 8
    for k, high in enumerate((h0, h1, h2, h3)):
        x[k], x[7 - k] = plain_join(low[k], high)
    return x


def columns_of(rows):
    return [[row[k] for row in rows] for k in range(len(rows[0]))]


def plain_forward_square(square):
    rows = [plain_forward(row) for row in square]
    return columns_of([plain_forward(column) for column in columns_of(rows)])


def plain_inverse_square(square):
    rows = columns_of([plain_inverse(column) for column in columns_of(square)])
    return [plain_inverse(row) for row in rows]


def plain_scan(n):
    """The scan order of size n."""
    def place(position):
        row, column = position
        total = row + column
        return total, row if total % 2 == 1 else -row

    return sorted([(row, column) for row in range(n) for column in range(n)], key=place)


def plain_residue(levels, q):
    """The residue of a transform block (point 47)."""
    n = {16: 4, 64: 8}[len(levels)]
    square = [[0] * n for _ in range(n)]
    for level, (row, column) in zip(levels, plain_scan(n)):
        square[row][column] = level * (1 + q + q * q // 4)
    return plain_inverse_square(square)
