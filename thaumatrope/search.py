"""Searching for the blocks of the least cost (points 63 to 65)."""

from thaumatrope.errors import OutOfRange
from thaumatrope.making import check_headers, make_pictures
from thaumatrope.vectors import clip_vector

PRICES = {"skip": 0, "intra": 1, "inter": 3}
MODES = 8
CHROMA_MODES = 4
ROUNDING = 4


def block_price(block):
    """Return the price of a block."""
    price = PRICES[block[0]]
    levels = [] if block[0] == "skip" else block[3]
    for parts in levels:
        for part in parts:
            price += sum([2 * abs(level).bit_length() + 1 for level in part if level != 0])
    return price


def near_vectors(vector):
    """Return the five vectors that are tried around a predicted vector."""
    x, y = vector
    tried = [(x, y), (x - 4, y), (x + 4, y), (x, y - 4), (x, y + 4)]
    return [clip_vector(right, down) for right, down in tried]


def search_frames(settings, frames, headers, *, weight=0):
    """Return pictures with these headers, made of the blocks of the least cost."""
    check_weight(weight)
    check_headers(frames, headers)

    def make_slices(maker):
        return search_slices(maker, weight)

    return make_pictures(settings, frames, headers, make_slices)


def check_weight(weight):
    """Raise OutOfRange if the weight of the price is negative."""
    if weight < 0:
        raise OutOfRange("the weight is not negative")


def search_slices(maker, weight):
    """Return the data of all slices of a picture."""
    return [_search_slice(maker, index, weight) for index in range(maker.settings.slices())]


def _search_slice(maker, index, weight):
    fmt = maker.settings.fmt
    columns, _ = fmt.blocks()
    _, rows = maker.settings.slice_rows(index)
    block_maker = maker.start_slice(index, 0)
    blocks = []
    for _ in range(columns * rows):
        plans = _plans(block_maker.builder.walk, fmt, maker.header)
        block = _cheapest(block_maker, plans, weight)
        # The samples of the last plan are still there.
        block_maker.builder.rebuild(block)
        blocks.append(block)
    return 0, [None] * fmt.planes, blocks


def _cheapest(maker, plans, weight):
    """Return the first block of the least cost that the plans make."""
    best = None
    best_cost = 0
    for plan in plans:
        block = maker.make(plan, ROUNDING)
        cost = maker.error() + weight * block_price(block)
        if best is None or cost < best_cost:
            best = block
            best_cost = cost
    return best


def _plans(walk, fmt, header):
    """Return the plans of the candidates for the next block."""
    plans = []
    if header.kind != "I":
        plans.append(("skip",))
        plans.extend([("inter", [motion], 8) for motion in _motions(walk, header)])
    for mode in range(MODES):
        chroma_mode = mode if fmt.chroma != 0 and mode < CHROMA_MODES else 0
        plans.append(("intra", [mode], chroma_mode))
    return plans


def _motions(walk, header):
    """Return the motions of the candidates for the next block."""
    x, y = walk.quarter(0)
    first = walk.grid.predicted(x, y)
    if header.kind == "P":
        near = near_vectors(first)
        return [(0, index, vector, None) for index in range(len(header.refs)) for vector in near]
    second = walk.grid.predicted(x, y, second=True)
    return [(0, 0, first, None), (1, 0, None, second), (2, 0, first, second)]
