"""Transforms of integers, which can be undone exactly (points 35 to 39)."""

from thaumatrope.squares import check_size, check_square, transposed


def split_pair(first, second):
    """Return the mean of a pair, rounded down, and its difference."""
    return (first + second) >> 1, first - second


def join_pair(low, high):
    """Return the pair that split_pair splits into these two."""
    first = low + ((high + 1) >> 1)
    return first, first - high


def turn_pair(first, second, *, outer, inner):
    """Return the pair after three steps, each of which changes one number by the other."""
    second += (outer * first + 16) >> 5
    first -= (inner * second + 16) >> 5
    second += (outer * first + 16) >> 5
    return first, second


def turn_back(first, second, *, outer, inner):
    """Return the pair that turn_pair turns into these two."""
    second -= (outer * first + 16) >> 5
    first += (inner * second + 16) >> 5
    second -= (outer * first + 16) >> 5
    return first, second


def forward(values):
    """Return the transform of four or eight integers."""
    check_size(len(values))
    return _forward_four(values) if len(values) == 4 else _forward_eight(values)


def inverse(values):
    """Return the four or eight integers that have this transform."""
    check_size(len(values))
    return _inverse_four(values) if len(values) == 4 else _inverse_eight(values)


def forward_square(square):
    """Return the transform of a square: first of its rows, then of its columns."""
    check_square(square)
    rows = [forward(row) for row in square]
    return transposed([forward(column) for column in transposed(rows)])


def inverse_square(square):
    """Return the square that has this transform."""
    check_square(square)
    columns = [inverse(column) for column in transposed(square)]
    return [inverse(row) for row in transposed(columns)]


def _forward_four(values):
    x0, x1, x2, x3 = values
    l0, h0 = split_pair(x0, x3)
    l1, h1 = split_pair(x1, x2)
    c0, c2 = split_pair(l0, l1)
    c1, c3 = turn_pair(h0, h1, outer=6, inner=12)
    return [c0, c1, c2, c3]


def _inverse_four(values):
    c0, c1, c2, c3 = values
    h0, h1 = turn_back(c1, c3, outer=6, inner=12)
    l0, l1 = join_pair(c0, c2)
    x1, x2 = join_pair(l1, h1)
    x0, x3 = join_pair(l0, h0)
    return [x0, x1, x2, x3]


def _forward_eight(values):
    pairs = [split_pair(values[k], values[7 - k]) for k in range(4)]
    h0, h1, h2, h3 = [high for _, high in pairs]
    e0, e1, e2, e3 = _forward_four([low for low, _ in pairs])
    d0, d3 = turn_pair(h0, h3, outer=3, inner=6)
    d1, d2 = turn_pair(h1, h2, outer=10, inner=18)
    f0, f1 = split_pair(d0, d1)
    f2, f3 = split_pair(d2, d3)
    return [e0, f0, e1, f2, e2, f1, e3, f3]


def _inverse_eight(values):
    e0, f0, e1, f2, e2, f1, e3, f3 = values
    d2, d3 = join_pair(f2, f3)
    d0, d1 = join_pair(f0, f1)
    h1, h2 = turn_back(d1, d2, outer=10, inner=18)
    h0, h3 = turn_back(d0, d3, outer=3, inner=6)
    lows = _inverse_four([e0, e1, e2, e3])
    pairs = [join_pair(low, high) for low, high in zip(lows, [h0, h1, h2, h3])]
    return [first for first, _ in pairs] + [second for _, second in pairs[::-1]]
