"""Going over the blocks of a slice (points 18, 28, 29 and 45)."""

from thaumatrope.vectors import MotionGrid


class SliceWalk:
    """The place of the next block of a slice, and what the blocks before it leave behind."""

    def __init__(self, settings, header, index):
        self.first_row, rows = settings.slice_rows(index)
        self.columns, _ = settings.fmt.blocks()
        self.grid = MotionGrid(self.columns, rows)
        # The place of the next block in the slice.
        self.column = 0
        self.row = 0
        self._kind = header.kind
        self._names = []

    def near(self, name):
        """Return how many neighbours of the next block have this name."""
        place = len(self._names)
        has_left = self.column > 0 and self._names[place - 1] == name
        has_above = self.row > 0 and self._names[place - self.columns] == name
        return (1 if has_left else 0) + (1 if has_above else 0)

    def quarter(self, place):
        """Return the column and row, in quarters, of one of the four quarters of the next block."""
        return 2 * self.column + place % 2, 2 * self.row + place // 2

    def motions_of(self, block):
        """Return the motions of the next block, or None for an intra block."""
        if block[0] == "skip":
            return [self.grid.skipped(self.column, self.row, self._kind)]
        return block[1] if block[0] == "inter" else None

    def step(self, block):
        """Keep what belongs to the next block, and go on to the block after it."""
        self.grid.keep(self.column, self.row, self.motions_of(block))
        self._names.append(block[0])
        self.row, self.column = divmod(len(self._names), self.columns)
