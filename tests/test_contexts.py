"""Point 17: the contexts of the syntax."""

import unittest

from thaumatrope import contexts

# For each name its base and the number of its contexts.
TABLE = {
    "SKIP": (0, 3), "INTRA": (3, 3), "SPLIT": (6, 2), "MODE": (8, 8), "CHROMA": (16, 4),
    "DIRECTION": (20, 4), "INDEX": (24, 1), "VECTOR_X": (25, 16), "VECTOR_Y": (41, 16), "SIZE": (57, 1),
    "CODED": (58, 6), "SIGNIFICANT": (64, 64), "LAST": (128, 64), "LEVEL": (192, 32), "OFFSET": (224, 32),
}


class Contexts(unittest.TestCase):
    def test_names_and_numbers(self):
        for name, (base, _) in TABLE.items():
            self.assertEqual(getattr(contexts, name), base)

    def test_there_are_no_other_names(self):
        self.assertEqual({name for name in vars(contexts) if name.isupper()}, set(TABLE))

    def test_the_contexts_follow_each_other(self):
        place = 0
        for name, (_, count) in TABLE.items():
            self.assertEqual(getattr(contexts, name), place)
            place += count
        self.assertEqual(place, 256)


if __name__ == "__main__":
    unittest.main()
