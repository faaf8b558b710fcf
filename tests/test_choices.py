"""Point 61: choices that are given as integers."""

import random
import unittest

from thaumatrope.choices import Choices
from thaumatrope.errors import CodecError, OutOfRange


class Taking(unittest.TestCase):
    def test_by_hand(self):
        self.assertEqual(Choices([7, 9]).among(4), 3)
        choices = Choices([7, 9, 0, 2 ** 32])
        self.assertEqual([choices.left, choices.among(4), choices.left], [4, 3, 3])
        self.assertEqual([choices.among(10), choices.left], [9, 2])
        self.assertEqual([choices.among(1), choices.left], [0, 1])
        self.assertEqual([choices.among(3), choices.left], [1, 0])

    def test_beyond_the_end(self):
        for choices in (Choices([]), Choices([5])):
            while choices.left:
                choices.among(9)
            for count in (1, 2, 33, 10 ** 12):
                self.assertEqual(choices.among(count), 0)
                self.assertEqual(choices.left, 0)

    def test_a_choice_of_one_takes_an_integer(self):
        choices = Choices([5, 6])
        self.assertEqual(choices.among(1), 0)
        self.assertEqual(choices.left, 1)
        self.assertEqual(choices.among(5), 1)

    def test_random_integers(self):
        chance = random.Random(70)
        numbers = [chance.choice((chance.randrange(40), chance.randint(0, 2 ** 32))) for _ in range(500)]
        choices = Choices(numbers)
        for place, number in enumerate(numbers):
            self.assertEqual(choices.left, 500 - place)
            count = chance.choice((1, 2, 3, 33, chance.randint(1, 2 ** 33)))
            self.assertEqual(choices.among(count), number % count)

    def test_the_list_does_not_change(self):
        numbers = [1, 2, 3]
        choices = Choices(numbers)
        choices.among(2)
        self.assertEqual(numbers, [1, 2, 3])
        numbers[1:] = [0, 0, 0, 0]
        self.assertEqual([choices.left, choices.among(9), choices.among(9), choices.left], [2, 2, 3, 0])

    def test_two_objects(self):
        numbers = [1, 2]
        first, second = Choices(numbers), Choices(numbers)
        first.among(5)
        self.assertEqual((first.left, second.left), (1, 2))


class Refusals(unittest.TestCase):
    def test_integers_out_of_range(self):
        Choices([0, 2 ** 32])
        for number in (-1, -2 ** 40, 2 ** 32 + 1, 2 ** 33):
            for numbers in ([number], [0, number], [number, 5], [1] * 50 + [number]):
                with self.assertRaises(OutOfRange):
                    Choices(numbers)

    def test_counts_below_one(self):
        choices = Choices([6])
        for count in (0, -1, -100):
            with self.assertRaises(OutOfRange):
                choices.among(count)
            self.assertEqual(choices.left, 1)
        self.assertEqual(choices.among(7), 6)
        with self.assertRaises(CodecError):
            choices.among(0)


if __name__ == "__main__":
    unittest.main()
