"""Encoding in the words of points 61, 63, 64 and 65, for comparison with that of the program."""

import copy

from tests.plain_motion import plain_predicted, plain_skipped, quarters_of
from tests.plain_picture import plain_filtered, plain_references, plain_slice_rows
from tests.plain_planes import flat_planes
from tests.plain_rebuild import plain_parts, plain_put
from tests.plain_samples import plain_area, plain_block, plain_borders
from tests.plain_syntax import SHAPES
from tests.plain_transform import plain_forward_square, plain_residue, plain_scan


def plain_padded(fmt, picture):
    """The coded planes of a frame (point 6)."""
    planes = []
    for index, plane in enumerate(picture):
        width, height = fmt.coded_size(index)
        rows = [row + [row[-1]] * (width - len(row)) for row in plane]
        planes.append(rows + [list(rows[-1]) for _ in range(height - len(rows))])
    return planes


def plain_quantized(square, q, rounding):
    """The levels of a square in scan order (points 40 and 41)."""
    s = 1 + q + q * q // 4
    levels = []
    for row, column in plain_scan(len(square)):
        x = square[row][column]
        size = (abs(x) + (s - 1) * rounding // 8) // s
        levels.append(-size if x < 0 else size)
    return levels


class State:
    """What encoding a slice works on: q is the level of the slice, and kept are the motions of its quarters."""

    def __init__(self, settings, header, source, references, planes):
        self.settings, self.header, self.source = settings, header, source
        self.references, self.planes = references, planes
        self.fmt = settings.fmt

    def begin(self, first, q):
        self.first, self.q, self.kept = first, q, {}

    def levels_of(self, index, area, predicted, rounding):
        """Write an area, and return its levels; rows are those that are predicted."""
        x, y, n = area
        missing = [[self.source[index][y + j][x + i] - predicted[j][i] for i in range(n)] for j in range(n)]
        levels = plain_quantized(plain_forward_square(missing), self.q, rounding)
        plain_put(self.fmt, self.planes[index], x, y, predicted, plain_residue(levels, self.q))
        return levels

    def intra(self, place, modes, chroma_mode, rounding):
        levels = []
        for index, plane in enumerate(self.planes):
            count = SHAPES[self.fmt.chroma, 8 if len(modes) == 1 else 4][index][0]
            parts = []
            for k, (x, y, n) in enumerate(plain_parts(self.fmt, index, place, count)):
                first_row = self.first * (4 if index and self.fmt.chroma == 1 else 8)
                above, left, corner = plain_borders(plane, x, y, n, first_row, 2 ** (self.fmt.depth - 1))
                mode = chroma_mode if index else modes[k]
                area = plain_area(above, left, corner, mode, 2 ** self.fmt.depth - 1)
                parts.append(self.levels_of(index, (x, y, n), area, rounding))
            levels.append(parts)
        return "intra", modes, chroma_mode, levels

    def predicted(self, place, motions):
        return plain_block(self.fmt, self.header, motions, self.references, *place)

    def inter(self, place, motions, size, rounding):
        levels = []
        for index, rows in enumerate(self.predicted(place, motions)):
            parts = []
            left, top, _ = plain_parts(self.fmt, index, place, 1)[0]
            for x, y, n in plain_parts(self.fmt, index, place, SHAPES[self.fmt.chroma, size][index][0]):
                area = [row[x - left:x - left + n] for row in rows[y - top:y - top + n]]
                parts.append(self.levels_of(index, (x, y, n), area, rounding))
            levels.append(parts)
        return "inter", motions, size, levels

    def skip(self, place, inside):
        motion = plain_skipped(self.kept, *inside, self.header.kind)
        for index, rows in enumerate(self.predicted(place, [motion])):
            x, y, n = plain_parts(self.fmt, index, place, 1)[0]
            plain_put(self.fmt, self.planes[index], x, y, rows, [[0] * n] * n)
        return ("skip",)

    def keep(self, inside, block):
        if block[0] == "intra":
            for quarter in quarters_of(*inside):
                self.kept.pop(quarter, None)
            return
        motions = block[1] if block[0] == "inter" else [plain_skipped(self.kept, *inside, self.header.kind)]
        self.kept.update(zip(quarters_of(*inside), motions * (4 // len(motions))))

    def error(self, place):
        total = 0
        for index, plane in enumerate(self.planes):
            x, y, n = plain_parts(self.fmt, index, place, 1)[0]
            for j in range(y, y + n):
                total += sum((plane[j][i] - self.source[index][j][i]) ** 2 for i in range(x, x + n))
        return total


class Taker:
    """Takes choices (point 61), and lists how many values each of them was among."""

    def __init__(self, numbers):
        self.numbers, self.counts = list(numbers), []

    def __call__(self, count):
        self.counts.append(count)
        return self.numbers.pop(0) % count if self.numbers else 0


def moved(k):
    """The function s of point 61."""
    return k // 2 + 1 if k % 2 == 1 else -(k // 2)


def chosen_vector(take, kept, quarter, second):
    p = plain_predicted(kept, *quarter, second)
    return tuple(max(-1023, min(1023, p[component] + moved(take(33)))) for component in (0, 1))


def chosen_motions(take, header, kept, inside):
    kept = dict(kept)
    motions = []
    for quarter in quarters_of(*inside)[:4 if take(2) == 1 else 1]:
        direction, index = 0, 0
        if header.kind == "P":
            index = take(len(header.refs))
        else:
            direction = take(3)
        first = chosen_vector(take, kept, quarter, False) if direction in (0, 2) else None
        second = chosen_vector(take, kept, quarter, True) if direction in (1, 2) else None
        motions.append((direction, index, first, second))
        kept[quarter] = motions[-1]
    return motions


def chosen_block(take, state, place, inside):
    header = state.header
    kind = 1
    if header.kind != "I":
        kind = take(2 if header.level == 0 else 3)
    if kind == 2:
        return state.skip(place, inside)
    if kind == 1:
        modes = [take(8) for _ in range(4 if take(2) == 1 else 1)]
        chroma_mode = take(4) if state.fmt.chroma else 0
        return state.intra(place, modes, chroma_mode, take(9))
    motions = chosen_motions(take, header, state.kept, inside)
    size = 4 if take(2) == 1 else 8
    return state.inter(place, motions, size, take(9))


def chosen_head(take, settings, header):
    """The delta and the offsets of a slice."""
    offsets = [None] * len(SHAPES[settings.fmt.chroma, 8])
    if header.level == 0:
        return 0, offsets
    delta = take(3) - 1
    if settings.offset:
        for plane in range(len(offsets)):
            if take(4) == 1:
                direction = take(4)
                offsets[plane] = direction, [take(15) - 7 for _ in range(4)]
    return delta, offsets


def plain_pictures(settings, frames, headers, head_of, block_of):
    """Pictures with these headers; head_of and block_of give the parts of each slice."""
    slots = [None] * settings.slots
    columns = (settings.fmt.width + 7) // 8
    pictures = []
    for header in headers:
        planes = flat_planes(settings.fmt, 2 ** (settings.fmt.depth - 1))
        source = plain_padded(settings.fmt, frames[header.number])
        state = State(settings, header, source, plain_references(settings, header, slots), planes)
        slices = []
        for rows in plain_slice_rows(settings):
            delta, offsets = head_of(header)
            state.begin(rows[0], max(0, min(31, header.level + delta)))
            blocks = []
            for number in range(columns * len(rows)):
                inside = number % columns, number // columns
                block = block_of(state, (inside[0], rows[0] + inside[1]), inside)
                state.keep(inside, block)
                blocks.append(block)
            slices.append((delta, offsets, blocks))
        planes = plain_filtered(settings, header, dict(enumerate(slices)), planes)
        for slot in header.store:
            slots[slot] = planes
        pictures.append((header, slices))
    return pictures


def plain_encode(settings, frames, headers, numbers):
    """The pictures that choices make, and how many values each choice was among."""
    take = Taker(numbers)
    pictures = plain_pictures(
        settings, frames, headers, lambda header: chosen_head(take, settings, header),
        lambda state, place, inside: chosen_block(take, state, place, inside),
    )
    return pictures, take.counts


def plain_price(block):
    """The price of a block (point 63)."""
    price = {"skip": 0, "intra": 1, "inter": 3}[block[0]]
    for plane in block[3] if len(block) == 4 else []:
        for level in [level for part in plane for level in part if level != 0]:
            price += 2 * len(f"{abs(level):b}") + 1
    return price


def plain_candidates(state, place, inside):
    """Functions that make each candidate for a block, in order (point 64)."""
    found = []
    if state.header.kind != "I":
        found.append(lambda: state.skip(place, inside))
        p, q = [plain_predicted(state.kept, *quarters_of(*inside)[0], second) for second in (False, True)]
        motions = [(0, 0, p, None), (1, 0, None, q), (2, 0, p, q)]
        if state.header.kind == "P":
            motions = []
            for index in range(len(state.header.refs)):
                for right, down in ((0, 0), (-4, 0), (4, 0), (0, -4), (0, 4)):
                    x, y = [max(-1023, min(1023, number)) for number in (p[0] + right, p[1] + down)]
                    motions.append((0, index, (x, y), None))
        found += [lambda motion=motion: state.inter(place, [motion], 8, 4) for motion in motions]
    for mode in range(8):
        chroma_mode = mode if state.fmt.chroma and mode < 4 else 0
        found.append(lambda mode=mode, chroma_mode=chroma_mode: state.intra(place, [mode], chroma_mode, 4))
    return found


def searched_block(weight, state, place, inside, costs=None):
    """The candidate with the least cost (point 65)."""
    before = copy.deepcopy(state.planes)
    tried = []
    for make in plain_candidates(state, place, inside):
        for plane, rows in zip(state.planes, before):
            plane[:] = copy.deepcopy(rows)
        block = make()
        tried.append((state.error(place) + weight * plain_price(block), block, copy.deepcopy(state.planes)))
    least = min(cost for cost, _, _ in tried)
    _, block, after = [candidate for candidate in tried if candidate[0] == least][0]
    for plane, rows in zip(state.planes, after):
        plane[:] = rows
    if costs is not None:
        costs.append([cost for cost, _, _ in tried])
    return block


def plain_search(settings, frames, headers, weight, costs=None):
    """The pictures that searching makes."""
    offsets = [None] * len(SHAPES[settings.fmt.chroma, 8])
    return plain_pictures(
        settings, frames, headers, lambda header: (0, list(offsets)),
        lambda state, place, inside: searched_block(weight, state, place, inside, costs),
    )
