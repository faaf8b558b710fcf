"""Predicted samples in the words of points 26, 27 and 31 to 34, for comparison with those of the program."""

WEIGHTS = {
    0: [0, 0, 64, 0, 0, 0], 1: [1, -5, 52, 20, -5, 1], 2: [2, -10, 40, 40, -10, 2], 3: [1, -5, 20, 52, -5, 1],
}


def plain_borders(plane, x, y, n, first_row, middle):
    """The samples above, those to the left and the corner in the words of point 26."""
    row_above, column_left = y > first_row, x > 0
    above = [plane[y - 1][x + i] for i in range(n)] if row_above else None
    left = [plane[y + j][x - 1] for j in range(n)] if column_left else None
    if row_above and column_left:
        return above, left, plane[y - 1][x - 1]
    if row_above:
        return above, [above[0]] * n, above[0]
    if column_left:
        return [left[0]] * n, left, left[0]
    return [middle] * n, [middle] * n, middle


def plain_sample(above, left, corner, mode, top, i, j):
    """The predicted sample at column i and row j in the words of point 27."""
    n = len(above)
    shift = 4 if n == 8 else 3
    if mode == 0:
        return (sum(above) + sum(left) + n) >> shift
    if mode == 1:
        return above[i]
    if mode == 2:
        return left[j]
    if mode == 3:
        return ((n - 1 - j) * above[i] + (j + 1) * left[n - 1] + (n - 1 - i) * left[j]
                + (i + 1) * above[n - 1] + n) >> shift
    target = left[j] + above[i] - corner
    if mode == 4:
        return min([left[j], above[i], corner], key=lambda sample: abs(sample - target))
    if mode == 5:
        return max(0, min(top, target))
    if mode == 6:
        edge = [left[n - 1 - k] for k in range(n)] + [corner] + above
        k = n + i - j
        return (edge[k - 1] + 2 * edge[k] + edge[k + 1] + 2) >> 2
    a, b, c = [min(i + j + k, n - 1) for k in range(3)]
    return (above[a] + 2 * above[b] + above[c] + 2) >> 2


def plain_area(above, left, corner, mode, top):
    n = len(above)
    return [[plain_sample(above, left, corner, mode, top, i, j) for i in range(n)] for j in range(n)]


def sample_at(plane, column, row):
    """The sample of a plane that is nearest to a place."""
    return plane[max(0, min(row, len(plane) - 1))][max(0, min(column, len(plane[0]) - 1))]


def plain_quarter_sum(plane, x, y):
    """The sum of point 31 for a position in quarters, before it is rounded and clipped."""
    i, f, j, g = x // 4, x % 4, y // 4, y % 4
    total = 0
    for t in range(6):
        along = sum(WEIGHTS[f][s] * sample_at(plane, i - 2 + s, j - 2 + t) for s in range(6))
        total += WEIGHTS[g][t] * along
    return total


def plain_quarter(plane, x, y, top):
    """The value at a position in quarters in the words of point 31."""
    return max(0, min(top, (plain_quarter_sum(plane, x, y) + 2048) >> 12))


def plain_eighth(plane, x, y):
    """The value at a position in eighths in the words of point 32."""
    i, f, j, g = x // 8, x % 8, y // 8, y % 8
    a, b = sample_at(plane, i, j), sample_at(plane, i + 1, j)
    c, d = sample_at(plane, i, j + 1), sample_at(plane, i + 1, j + 1)
    return ((8 - f) * (8 - g) * a + f * (8 - g) * b + (8 - f) * g * c + f * g * d + 32) >> 6


def plain_vector_sample(fmt, vector, reference, plane, i, j):
    """The sample at column i and row j of a plane that a vector predicts (point 33)."""
    x, y = vector
    if plane > 0 and fmt.chroma == 1:
        return plain_eighth(reference[plane], 8 * i + x, 8 * j + y)
    return plain_quarter(reference[plane], 4 * i + x, 4 * j + y, 2 ** fmt.depth - 1)


def plain_motion_sample(fmt, header, motion, references, plane, i, j):
    """The sample at column i and row j of a plane that a motion predicts (point 33)."""
    direction, index, first, second = motion
    if header.kind == "P":
        return plain_vector_sample(fmt, first, references[index], plane, i, j)
    p = plain_vector_sample(fmt, first, references[0], plane, i, j) if direction != 1 else None
    q = plain_vector_sample(fmt, second, references[1], plane, i, j) if direction != 0 else None
    if direction == 2:
        return (q * header.weight + p * (16 - header.weight) + 8) >> 4
    return q if direction == 1 else p


def plain_block(fmt, header, motions, references, column, row):
    """The rows of a block in each plane that its motions predict (point 34)."""
    predicted = []
    for plane in range(len(references[0])):
        e = 4 if plane > 0 and fmt.chroma == 1 else 8
        rows = []
        for down in range(e):
            quarters = [0 if len(motions) == 1 else 2 * (2 * down // e) + 2 * right // e for right in range(e)]
            rows.append([
                plain_motion_sample(fmt, header, motions[quarters[right]], references, plane,
                                    column * e + right, row * e + down)
                for right in range(e)
            ])
        predicted.append(rows)
    return predicted
