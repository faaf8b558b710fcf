"""Points 24, 28, 29 and 30: the motion of quarters, and its coding."""

import itertools
import random
import unittest

from tests.plain_motion import plain_predicted, plain_skipped, quarters_of, random_motion
from tests.plain_symbols import Listing, Playing, plain_choice, plain_number, plain_signed
from tests.plain_syntax import plain_motion
from thaumatrope.coder import Decoder, Encoder
from thaumatrope.contexts import DIRECTION, INDEX, VECTOR_X, VECTOR_Y
from thaumatrope.frames import Format
from thaumatrope.headers import PictureHeader, Settings
from thaumatrope.symbols import SymbolReader, SymbolWriter
from thaumatrope.vectors import MotionGrid, read_motion, write_motion

SETTINGS = Settings(Format(32, 32), slots=4)
HEADERS = {
    "P": PictureHeader(SETTINGS, number=1, kind="P", refs=[3]),
    "PP": PictureHeader(SETTINGS, number=1, kind="P", refs=[2, 0]),
    "B": PictureHeader(SETTINGS, number=1, kind="B", refs=[1, 1], weight=3),
}
EXTREMES = (-1023, 1023)


def first_of(x, y):
    """A motion with a first vector only."""
    return 0, 0, (x, y), None


def second_of(x, y):
    return 1, 0, None, (x, y)


def contents(grid, columns, rows):
    """The motions in a grid and around it."""
    return {
        (x, y): grid.motion_at(x, y) for x in range(-3, 2 * columns + 3) for y in range(-3, 2 * rows + 3)
        if grid.motion_at(x, y) is not None
    }


class Keeping(unittest.TestCase):
    def setUp(self):
        self.grid = MotionGrid(3, 2)

    def kept(self):
        return contents(self.grid, 3, 2)

    def test_a_new_grid(self):
        for columns, rows in ((1, 1), (3, 2), (32, 32)):
            grid = MotionGrid(columns, rows)
            self.assertEqual(contents(grid, columns, rows), {})
            for x in range(-1, 2 * columns + 1):
                for y in range(-1, 2 * rows + 1):
                    self.assertIsNone(grid.motion_at(x, y))
                    self.assertEqual(grid.predicted(x, y), (0, 0))
                    self.assertEqual(grid.predicted(x, y, second=True), (0, 0))

    def test_one_motion(self):
        motion = first_of(5, -6)
        self.assertIsNone(self.grid.keep(1, 1, [motion]))
        self.assertEqual(self.kept(), {(2, 2): motion, (3, 2): motion, (2, 3): motion, (3, 3): motion})

    def test_four_motions(self):
        motions = [first_of(k, -k) for k in range(4)]
        self.grid.keep(2, 0, motions)
        self.assertEqual(self.kept(), {(4, 0): motions[0], (5, 0): motions[1], (4, 1): motions[2], (5, 1): motions[3]})

    def test_no_motion(self):
        self.grid.keep(0, 1, None)
        self.assertEqual(self.kept(), {})
        self.grid.keep(0, 1, [first_of(1, 2)])
        self.grid.keep(1, 1, [first_of(3, 4)] * 4)
        self.grid.keep(0, 1, None)
        self.assertEqual(set(self.kept()), set(quarters_of(1, 1)))
        self.grid.keep(1, 1, None)
        self.assertEqual(self.kept(), {})

    def test_quarters(self):
        self.assertIsNone(self.grid.keep_quarter(5, 3, first_of(1, 2)))
        self.grid.keep_quarter(0, 1, second_of(3, 4))
        self.assertEqual(self.kept(), {(5, 3): first_of(1, 2), (0, 1): second_of(3, 4)})

    def test_another_motion_later(self):
        self.grid.keep_quarter(1, 2, first_of(1, 2))
        self.grid.keep_quarter(1, 2, first_of(3, 4))
        self.assertEqual(self.kept(), {(1, 2): first_of(3, 4)})
        self.grid.keep(0, 1, [first_of(5, 6)])
        self.grid.keep_quarter(1, 3, second_of(7, 8))
        four = [first_of(5, 6), first_of(5, 6), first_of(5, 6), second_of(7, 8)]
        self.assertEqual(self.kept(), dict(zip(quarters_of(0, 1), four)))
        self.grid.keep_quarter(1, 3, None)
        self.assertEqual(self.kept(), dict(zip(quarters_of(0, 1)[:3], four)))
        self.grid.keep(0, 1, [first_of(k, k) for k in range(4)])
        self.assertEqual(self.kept(), {place: first_of(k, k) for k, place in enumerate(quarters_of(0, 1))})

    def test_all_blocks(self):
        expected = {}
        for column in range(3):
            for row in range(2):
                motions = [first_of(column, 4 * row + k) for k in range(4)]
                self.grid.keep(column, row, motions)
                expected.update(zip(quarters_of(column, row), motions))
        self.assertEqual(len(expected), 24)
        self.assertEqual(self.kept(), expected)

    def test_outside_of_the_grid(self):
        for column in range(3):
            for row in range(2):
                self.grid.keep(column, row, [first_of(9, 9)])
        for x in range(-8, 15):
            for y in range(-8, 13):
                inside = 0 <= x < 6 and 0 <= y < 4
                self.assertEqual(self.grid.motion_at(x, y), first_of(9, 9) if inside else None)

    def test_nothing_is_kept_outside_of_the_grid(self):
        for x, y in ((-1, 0), (0, -1), (6, 0), (0, 4), (-6, -4), (5, -1), (-1, 3), (6, 4), (100, 100)):
            self.grid.keep_quarter(x, y, first_of(1, 1))
        for column, row in ((-1, 0), (0, -1), (3, 0), (0, 2), (-3, -2)):
            self.grid.keep(column, row, [first_of(1, 1)])
        self.assertEqual(self.kept(), {})

    def test_changes_of_a_list_that_was_passed(self):
        motions = [first_of(k, k) for k in range(4)]
        one = [first_of(8, 8)]
        self.grid.keep(0, 0, motions)
        self.grid.keep(1, 0, one)
        before = self.kept()
        motions[1] = first_of(9, 9)
        motions.clear()
        one[0] = None
        self.assertEqual(self.kept(), before)
        self.assertEqual(len(before), 8)

    def test_grids_have_nothing_in_common(self):
        other = MotionGrid(3, 2)
        self.grid.keep(0, 0, [first_of(1, 1)])
        self.assertEqual(contents(other, 3, 2), {})


# What a quarter may have: nothing, a first vector, a second one, or both.
STATES = [None, first_of(4, -7), first_of(-9, 2), second_of(-3, 5), second_of(6, -1), (2, 0, (8, 8), (-2, -8))]


class Predicting(unittest.TestCase):
    def both(self, grid, kept, x, y):
        for second in (False, True):
            found = grid.predicted(x, y, second=second)
            self.assertEqual(found, plain_predicted(kept, x, y, second))
            self.assertIsInstance(found, tuple)
        self.assertEqual(grid.predicted(x, y), plain_predicted(kept, x, y))

    def test_each_state_of_each_neighbour(self):
        for states in itertools.product(STATES, repeat=3):
            for x, y in ((1, 1), (2, 1), (1, 2), (3, 3)):
                grid, kept = MotionGrid(2, 2), {}
                for (right, down), motion in zip(((-1, 0), (0, -1), (-1, -1)), states):
                    grid.keep_quarter(x + right, y + down, motion)
                    kept[x + right, y + down] = motion
                # The quarter itself and those behind it count for nothing.
                grid.keep_quarter(x, y, (2, 0, (500, 500), (500, 500)))
                grid.keep_quarter(x + 1, y, (2, 0, (500, 500), (500, 500)))
                grid.keep_quarter(x, y + 1, (2, 0, (500, 500), (500, 500)))
                self.both(grid, kept, x, y)

    def test_neighbours_outside_of_the_grid(self):
        motion = (2, 0, (10, -20), (-30, 40))
        grid = MotionGrid(2, 2)
        for column in range(2):
            for row in range(2):
                grid.keep(column, row, [motion])
        kept = contents(grid, 2, 2)
        self.assertEqual(len(kept), 16)
        for x in range(-1, 6):
            for y in range(-1, 6):
                self.both(grid, kept, x, y)
        # With one neighbour in the grid the median is 0, with three it is theirs.
        self.assertEqual(grid.predicted(0, 0), (0, 0))
        self.assertEqual(grid.predicted(1, 0), (0, 0))
        self.assertEqual(grid.predicted(0, 1), (0, 0))
        self.assertEqual(grid.predicted(1, 1), (10, -20))
        self.assertEqual(grid.predicted(1, 1, second=True), (-30, 40))

    def test_medians(self):
        cases = [
            # To the left, above, above left; the medians.
            ((1, 10), (2, 20), (3, 30), (2, 20)),
            ((3, 30), (1, 20), (2, 10), (2, 20)),
            ((-5, 7), (-9, -7), (4, 0), (-5, 0)),
            ((-1, -1), (-1, -1), (8, -8), (-1, -1)),
            ((6, 2), (6, 3), (6, 2), (6, 2)),
            ((0, 1), (5, 1), (5, -4), (5, 1)),
            ((-1023, 1023), (1023, -1023), (0, 1), (0, 1)),
            ((-1023, -1023), (-1023, 1023), (-1022, 1023), (-1023, 1023)),
        ]
        for left, above, corner, expected in cases:
            for second in (False, True):
                make = second_of if second else first_of
                grid = MotionGrid(1, 1)
                grid.keep(0, 0, [make(*corner), make(*above), make(*left), None])
                self.assertEqual(grid.predicted(1, 1, second=second), expected)
                self.assertEqual(grid.predicted(1, 1, second=not second), (0, 0))

    def test_a_neighbour_without_this_vector_counts_as_0(self):
        grid = MotionGrid(1, 1)
        grid.keep(0, 0, [first_of(7, 7), second_of(5, 5), (2, 0, (9, 9), (3, 3)), None])
        # First vectors: (9, 9) to the left, none above, (7, 7) in the corner.
        self.assertEqual(grid.predicted(1, 1), (7, 7))
        # Second vectors: (3, 3) to the left, (5, 5) above, none in the corner.
        self.assertEqual(grid.predicted(1, 1, second=True), (3, 3))

    def test_random_grids(self):
        chance = random.Random(28)
        for _ in range(30):
            columns, rows = chance.randint(1, 4), chance.randint(1, 4)
            grid, kept = MotionGrid(columns, rows), {}
            for _ in range(3 * columns * rows):
                x, y = chance.randrange(2 * columns), chance.randrange(2 * rows)
                motion = chance.choice([None, random_motion(chance, HEADERS["B"], 4)])
                grid.keep_quarter(x, y, motion)
                kept[x, y] = motion
            for x in range(2 * columns):
                for y in range(2 * rows):
                    self.assertEqual(grid.motion_at(x, y), kept.get((x, y)))
                    self.both(grid, kept, x, y)


class Skipped(unittest.TestCase):
    def test_without_neighbours(self):
        grid = MotionGrid(2, 2)
        self.assertEqual(grid.skipped(0, 0, "P"), (0, 0, (0, 0), None))
        self.assertEqual(grid.skipped(1, 1, "B"), (2, 0, (0, 0), (0, 0)))

    def test_by_hand(self):
        grid = MotionGrid(2, 2)
        grid.keep(0, 0, [first_of(900, 900)] * 3 + [(2, 0, (1, 9), (-4, 0))])
        grid.keep(1, 0, [first_of(800, 800)] * 2 + [(2, 0, (2, 8), (-5, 6)), first_of(700, 700)])
        grid.keep(0, 1, [first_of(600, 600), (2, 0, (3, 7), (-6, 5)), first_of(500, 500), first_of(400, 400)])
        self.assertEqual(grid.skipped(1, 1, "P"), (0, 0, (2, 8), None))
        self.assertEqual(grid.skipped(1, 1, "B"), (2, 0, (2, 8), (-5, 5)))

    def test_predictions_are_those_of_the_top_left_quarter(self):
        chance = random.Random(29)
        for kind in ("P", "PP", "B"):
            for _ in range(20):
                grid, kept = MotionGrid(3, 3), {}
                for x in range(6):
                    for y in range(6):
                        motion = random_motion(chance, HEADERS[kind], 20)
                        grid.keep_quarter(x, y, motion)
                        kept[x, y] = motion
                before = contents(grid, 3, 3)
                for column in range(3):
                    for row in range(3):
                        found = grid.skipped(column, row, kind[0])
                        self.assertEqual(found, plain_skipped(kept, column, row, kind[0]))
                self.assertEqual(contents(grid, 3, 3), before)


def filled(columns, rows, motion):
    grid = MotionGrid(columns, rows)
    for column in range(columns):
        for row in range(rows):
            grid.keep(column, row, [motion])
    return grid


class Coding(unittest.TestCase):
    def steps(self, header, grid, x, y, motion):
        listing = Listing()
        self.assertIsNone(write_motion(SymbolWriter(listing), header, grid, x, y, motion))
        playing = Playing([decision for _, decision in listing.steps])
        found = read_motion(SymbolReader(playing), header, grid, x, y)
        self.assertEqual(found, motion)
        self.assertIsInstance(found, tuple)
        self.assertEqual(playing.contexts, [context for context, _ in listing.steps])
        return listing.steps

    def test_by_hand(self):
        grid = filled(1, 1, (2, 0, (1, 2), (3, 4)))
        zero_x, zero_y = [(VECTOR_X, 0)], [(VECTOR_Y, 0)]
        one_y = plain_signed(VECTOR_Y, 1)
        self.assertEqual(self.steps(HEADERS["P"], grid, 1, 1, (0, 0, (1, 2), None)), zero_x + zero_y)
        self.assertEqual(self.steps(HEADERS["P"], grid, 1, 1, (0, 0, (1, 3), None)), zero_x + one_y)
        self.assertEqual(self.steps(HEADERS["PP"], grid, 1, 1, (0, 0, (1, 2), None)), [(INDEX, 0)] + zero_x + zero_y)
        self.assertEqual(self.steps(HEADERS["PP"], grid, 1, 1, (0, 1, (1, 3), None)), [(INDEX, 1)] + zero_x + one_y)
        self.assertEqual(
            self.steps(HEADERS["B"], grid, 1, 1, (0, 0, (1, 3), None)),
            [(DIRECTION, 0), (DIRECTION + 1, 0)] + zero_x + one_y,
        )
        self.assertEqual(
            self.steps(HEADERS["B"], grid, 1, 1, (1, 0, None, (3, 5))),
            [(DIRECTION, 0), (DIRECTION + 1, 1)] + zero_x + one_y,
        )
        self.assertEqual(
            self.steps(HEADERS["B"], grid, 1, 1, (2, 0, (1, 1), (7, 4))),
            [(DIRECTION, 1), (DIRECTION + 2, 0)] + zero_x + plain_signed(VECTOR_Y, -1)
            + plain_signed(VECTOR_X, 4) + zero_y,
        )
        # At the corner of the slice nothing is predicted.
        self.assertEqual(
            self.steps(HEADERS["P"], grid, 0, 0, (0, 0, (1, 2), None)),
            plain_signed(VECTOR_X, 1) + plain_signed(VECTOR_Y, 2),
        )

    def test_random_motions(self):
        chance = random.Random(30)
        for kind, header in HEADERS.items():
            for most in (2, 30, 1023):
                grid, kept = MotionGrid(2, 2), {}
                for _ in range(60):
                    x, y = chance.randrange(4), chance.randrange(4)
                    motion = random_motion(chance, header, most)
                    steps = self.steps(header, grid, x, y, motion)
                    self.assertEqual(steps, plain_motion(header, kept, x, y, motion), msg=kind)
                    grid.keep_quarter(x, y, motion)
                    kept[x, y] = motion

    def test_the_greatest_differences(self):
        for px, py, x, y in itertools.product(EXTREMES, repeat=4):
            grid = filled(1, 1, (2, 0, (px, py), (px, py)))
            difference = plain_signed(VECTOR_X, x - px) + plain_signed(VECTOR_Y, y - py)
            motions = [("P", first_of(x, y), []), ("PP", (0, 1, (x, y), None), [(INDEX, 1)]),
                       ("B", first_of(x, y), plain_choice(DIRECTION, 0, 3)),
                       ("B", second_of(x, y), plain_choice(DIRECTION, 1, 3))]
            for kind, motion, before in motions:
                self.assertEqual(self.steps(HEADERS[kind], grid, 1, 1, motion), before + difference)
            steps = self.steps(HEADERS["B"], grid, 1, 1, (2, 0, (x, y), (x, y)))
            self.assertEqual(steps, plain_choice(DIRECTION, 2, 3) + difference * 2)

    def test_of_four_motions_each_is_predicted_after_those_before_were_kept(self):
        # The quarters are at (2, 2), (3, 2), (2, 3) and (3, 3); around them only the one at (1, 2) has motion.
        motions = [first_of(10, 0), first_of(20, 1), first_of(30, 2), first_of(40, 3)]
        grid = MotionGrid(2, 2)
        grid.keep_quarter(1, 2, first_of(5, 5))
        listing = Listing()
        for (x, y), motion in zip(quarters_of(1, 1), motions):
            write_motion(SymbolWriter(listing), HEADERS["P"], grid, x, y, motion)
            grid.keep_quarter(x, y, motion)
        # Predicted are the medians of 5, 0, 0; of 10, 0, 0; of 0, 10, 5; and of 30, 20, 10.
        expected = []
        for x, y in ((10, 0), (20, 1), (25, 2), (20, 2)):
            expected += plain_signed(VECTOR_X, x) + plain_signed(VECTOR_Y, y)
        self.assertEqual(listing.steps, expected)

    def test_one_after_the_other_with_one_coder(self):
        chance = random.Random(31)
        for kind, header in HEADERS.items():
            motions = [random_motion(chance, header, chance.choice((3, 100, 1023))) for _ in range(64)]
            if kind == "B":
                motions[:3] = [first_of(-1023, 1023), second_of(1023, -1023), (2, 0, (-1023, -1023), (1023, 1023))]
            places = [(x, y) for y in range(8) for x in range(8)]
            encoder = Encoder()
            grid = MotionGrid(4, 4)
            for (x, y), motion in zip(places, motions):
                before = contents(grid, 4, 4)
                write_motion(SymbolWriter(encoder), header, grid, x, y, motion)
                self.assertEqual(contents(grid, 4, 4), before)
                grid.keep_quarter(x, y, motion)
            reader = SymbolReader(Decoder(encoder.octets()))
            again = MotionGrid(4, 4)
            for (x, y), motion in zip(places, motions):
                before = contents(again, 4, 4)
                self.assertEqual(read_motion(reader, header, again, x, y), motion)
                self.assertEqual(contents(again, 4, 4), before)
                again.keep_quarter(x, y, motion)


class ReadingAnything(unittest.TestCase):
    def check_vector(self, vector, used):
        if not used:
            self.assertIsNone(vector)
            return
        self.assertIsInstance(vector, tuple)
        self.assertEqual(len(vector), 2)
        self.assertTrue(all(-1023 <= component <= 1023 for component in vector))

    def check_motion(self, header, motion):
        direction, index, first, second = motion
        if header.kind == "P":
            self.assertEqual(direction, 0)
            self.assertIn(index, range(len(header.refs)))
        else:
            self.assertIn(direction, (0, 1, 2))
            self.assertEqual(index, 0)
        self.check_vector(first, direction != 1)
        self.check_vector(second, direction != 0)

    def test_any_octets(self):
        chance = random.Random(32)
        cases = [[], [0] * 60, [255] * 600] + [[chance.randrange(256) for _ in range(500)] for _ in range(10)]
        for header in HEADERS.values():
            for octets in cases:
                reader = SymbolReader(Decoder(octets))
                grid = MotionGrid(3, 3)
                for y in range(6):
                    for x in range(6):
                        before = contents(grid, 3, 3)
                        motion = read_motion(reader, header, grid, x, y)
                        self.check_motion(header, motion)
                        self.assertEqual(contents(grid, 3, 3), before)
                        grid.keep_quarter(x, y, motion)

    def test_no_octets_and_octets_that_are_all_255(self):
        grid = filled(1, 1, (2, 0, (5, 6), (7, 8)))
        expected = {
            "P": ((0, 0, (5, 6), None), (0, 0, (-1023, -1023), None)),
            "PP": ((0, 0, (5, 6), None), (0, 1, (-1023, -1023), None)),
            "B": ((0, 0, (5, 6), None), (2, 0, (-1023, -1023), (-1023, -1023))),
        }
        for kind, header in HEADERS.items():
            for octets, motion in zip(([], [255] * 400), expected[kind]):
                self.assertEqual(read_motion(SymbolReader(Decoder(octets)), header, grid, 1, 1), motion)

    def test_components_are_clipped(self):
        for difference in (1022, 1023, 1024, 2046, 5000, 2 ** 20):
            for sign in (1, -1):
                for px, py in ((0, 0), (100, -100), (1023, -1023), (-1023, 1023)):
                    grid = filled(1, 1, (2, 0, (px, py), (py, px)))
                    number = sign * difference
                    steps = plain_signed(VECTOR_X, number) + plain_signed(VECTOR_Y, number)
                    playing = Playing([decision for _, decision in steps])
                    x, y = [max(-1023, min(1023, p + number)) for p in (px, py)]
                    self.assertEqual(read_motion(SymbolReader(playing), HEADERS["P"], grid, 1, 1), first_of(x, y))
                    steps = plain_choice(DIRECTION, 1, 3) + steps
                    playing = Playing([decision for _, decision in steps])
                    self.assertEqual(read_motion(SymbolReader(playing), HEADERS["B"], grid, 1, 1), second_of(y, x))

    def test_a_direction_that_is_too_great_becomes_2(self):
        playing = Playing([1, 1] + [0] * 4)
        motion = read_motion(SymbolReader(playing), HEADERS["B"], MotionGrid(1, 1), 0, 0)
        self.assertEqual(motion, (2, 0, (0, 0), (0, 0)))
        self.assertEqual(playing.contexts, [DIRECTION, DIRECTION + 2, VECTOR_X, VECTOR_Y, VECTOR_X, VECTOR_Y])

    def test_a_number_has_its_own_contexts_for_each_component(self):
        steps = plain_number(VECTOR_X, 1) + [(None, 0)] + plain_number(VECTOR_Y, 1) + [(None, 1)]
        playing = Playing([decision for _, decision in steps])
        motion = read_motion(SymbolReader(playing), HEADERS["P"], MotionGrid(1, 1), 0, 0)
        self.assertEqual(motion, first_of(1, -1))
        self.assertEqual(playing.contexts, [context for context, _ in steps])


if __name__ == "__main__":
    unittest.main()
