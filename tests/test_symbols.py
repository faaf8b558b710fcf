"""Points 15 and 16: coding of values."""

import random
import unittest

from tests.plain_symbols import Listing, Playing, plain_choice, plain_number, plain_signed, plain_unary
from thaumatrope.coder import Decoder, Encoder
from thaumatrope.errors import OutOfRange
from thaumatrope.symbols import SymbolReader, SymbolWriter

GREATEST = 2 ** 20
NUMBERS = [0, 1, 2, 3, 4, 6, 7, 8, 100, 254, 255, 256, 65535, 524287, 2 ** 19 + 1, GREATEST - 2, GREATEST - 1, GREATEST]


def steps_of(name, *arguments, **more):
    listing = Listing()
    result = getattr(SymbolWriter(listing), name)(*arguments, **more)
    assert result is None
    return listing.steps


class Decisions(unittest.TestCase):
    """The decisions and contexts of each value, and reading from these decisions."""

    def both(self, expected, name, value, base=(), **more):
        self.assertEqual(steps_of(name, *base, value, **more), expected)
        playing = Playing([decision for _, decision in expected])
        found = getattr(SymbolReader(playing), name)(*base, **more)
        self.assertEqual(found, value)
        self.assertIs(found.__class__, value.__class__)
        self.assertEqual(playing.contexts, [context for context, _ in expected])

    def test_flags(self):
        for base in (0, 1, 254, 255):
            self.both([(base, 1)], "flag", True, (base,))
            self.both([(base, 0)], "flag", False, (base,))

    def test_choices(self):
        for count in range(1, 17):
            for value in range(count):
                for base in (0, 5, 240):
                    self.both(plain_choice(base, value, count), "choice", value, (base,), count=count)

    def test_choices_by_hand(self):
        self.both([], "choice", 0, (7,), count=1)
        self.both([(7, 1)], "choice", 1, (7,), count=2)
        self.both([(7, 1), (9, 0)], "choice", 2, (7,), count=3)
        self.both([(7, 0), (8, 1)], "choice", 1, (7,), count=3)
        self.both([(7, 1), (9, 0), (12, 1)], "choice", 5, (7,), count=8)
        self.both([(7, 1), (9, 1), (13, 1), (21, 1)], "choice", 15, (7,), count=16)

    def test_unary_values(self):
        for most in list(range(12)) + [20, 63, 64]:
            for value in range(most + 1):
                for base in (0, 3, 248):
                    self.both(plain_unary(base, value, most), "unary", value, (base,), most=most)

    def test_unary_values_by_hand(self):
        self.both([], "unary", 0, (7,), most=0)
        self.both([(7, 0)], "unary", 0, (7,), most=1)
        self.both([(7, 1)], "unary", 1, (7,), most=1)
        self.both([(7, 1), (8, 1), (9, 0)], "unary", 2, (7,), most=64)
        self.both([(7 + k, 1) for k in range(8)] + [(14, 1), (14, 0)], "unary", 9, (7,), most=64)

    def test_numbers(self):
        for value in NUMBERS:
            for base in (0, 3, 240):
                self.both(plain_number(base, value), "number", value, (base,))

    def test_numbers_by_hand(self):
        self.both([(7, 0)], "number", 0, (7,))
        self.both([(7, 1), (8, 0), (15, 0)], "number", 1, (7,))
        self.both([(7, 1), (8, 0), (15, 1)], "number", 2, (7,))
        self.both([(7, 1), (8, 1), (9, 0), (16, 0), (None, 1)], "number", 4, (7,))
        ones = [(7 + min(k, 7), 1) for k in range(20)]
        zeros = [(22, 0)] + [(None, 0)] * 18
        self.both(ones + zeros + [(None, 1)], "number", GREATEST, (7,))
        self.both(ones + zeros + [(None, 0)], "number", GREATEST - 1, (7,))

    def test_signed_values(self):
        for value in NUMBERS:
            for base in (0, 3, 240):
                self.both(plain_signed(base, value), "signed", value, (base,))
                self.both(plain_signed(base, -value), "signed", -value, (base,))
        self.both([(7, 0)], "signed", 0, (7,))
        self.both([(7, 1), (8, 0), (15, 0), (None, 0)], "signed", 1, (7,))
        self.both([(7, 1), (8, 0), (15, 0), (None, 1)], "signed", -1, (7,))

    def test_even_decisions(self):
        self.both([(None, 0)], "even", 0)
        self.both([(None, 1)], "even", 1)

    def test_read_values_that_are_too_great(self):
        for count in range(1, 17):
            width = (count - 1).bit_length()
            reader = SymbolReader(Playing([1] * width))
            self.assertEqual(reader.choice(0, count=count), count - 1)
        self.assertEqual(SymbolReader(Playing([1, 0, 1])).choice(0, count=5), 4)
        for digits in ([1] * 20, [0] * 18 + [1, 0], [1] + [0] * 19):
            reader = SymbolReader(Playing([1] * 20 + digits))
            self.assertEqual(reader.number(0), GREATEST)
        self.assertEqual(SymbolReader(Playing([1] * 40 + [1])).signed(0), -GREATEST)
        self.assertEqual(SymbolReader(Playing([1] * 40 + [0])).signed(0), GREATEST)


class ReadingBack(unittest.TestCase):
    def calls(self, seed, count):
        chance = random.Random(seed)
        for _ in range(count):
            name = chance.choice(["flag", "choice", "unary", "number", "signed", "even"])
            if name == "flag":
                yield name, (chance.randrange(256),), bool(chance.randrange(2)), {}
            elif name == "choice":
                many = chance.randrange(1, 17)
                yield name, (chance.randrange(241),), chance.randrange(many), {"count": many}
            elif name == "unary":
                most = chance.randrange(65)
                yield name, (chance.randrange(249),), chance.randrange(most + 1), {"most": most}
            elif name == "number":
                yield name, (chance.randrange(241),), chance.choice(NUMBERS), {}
            elif name == "signed":
                yield name, (chance.randrange(241),), chance.choice(NUMBERS) * chance.choice((1, -1)), {}
            else:
                yield name, (), chance.randrange(2), {}

    def test_the_same_calls_in_the_same_order(self):
        for seed in range(12):
            calls = list(self.calls(seed, 150))
            encoder = Encoder()
            writer = SymbolWriter(encoder)
            for name, base, value, more in calls:
                getattr(writer, name)(*base, value, **more)
            reader = SymbolReader(Decoder(encoder.octets()))
            for name, base, value, more in calls:
                self.assertEqual(getattr(reader, name)(*base, **more), value)

    def test_all_values_of_small_ranges(self):
        encoder = Encoder()
        writer = SymbolWriter(encoder)
        for value in range(-300, 301):
            writer.signed(25, value)
            writer.number(41, abs(value))
        reader = SymbolReader(Decoder(encoder.octets()))
        for value in range(-300, 301):
            self.assertEqual(reader.signed(25), value)
            self.assertEqual(reader.number(41), abs(value))

    def test_any_octets(self):
        chance = random.Random(5)
        cases = [[], [0] * 50, [255] * 400, [chance.randrange(256) for _ in range(300)]]
        for octets in cases:
            reader = SymbolReader(Decoder(octets))
            for _ in range(60):
                self.assertIn(reader.flag(0), (True, False))
                for count in range(1, 17):
                    self.assertIn(reader.choice(8, count=count), range(count))
                for most in (0, 1, 20, 64):
                    self.assertIn(reader.unary(30, most=most), range(most + 1))
                self.assertTrue(0 <= reader.number(60) <= GREATEST)
                self.assertTrue(-GREATEST <= reader.signed(80) <= GREATEST)
                self.assertIn(reader.even(), (0, 1))

    def test_no_octets_and_octets_that_are_all_255(self):
        reader = SymbolReader(Decoder([]))
        found = [reader.flag(0), reader.choice(1, count=16), reader.unary(20, most=9), reader.number(40)]
        self.assertEqual(found, [False, 0, 0, 0])
        self.assertEqual(reader.signed(40), 0)
        reader = SymbolReader(Decoder([255] * 400))
        self.assertEqual(reader.choice(0, count=5), 4)
        self.assertEqual(SymbolReader(Decoder([255] * 400)).unary(0, most=64), 64)
        self.assertEqual(SymbolReader(Decoder([255] * 400)).number(0), GREATEST)
        self.assertEqual(SymbolReader(Decoder([255] * 400)).signed(0), -GREATEST)


WRONG_VALUES = [
    ("choice", (0, -1), {"count": 4}), ("choice", (0, 4), {"count": 4}), ("choice", (0, 3), {"count": 3}),
    ("choice", (0, 1), {"count": 1}), ("choice", (0, 16), {"count": 16}),
    ("unary", (0, -1), {"most": 3}), ("unary", (0, 4), {"most": 3}), ("unary", (0, 1), {"most": 0}),
    ("unary", (0, 65), {"most": 64}),
    ("number", (0, -1), {}), ("number", (0, GREATEST + 1), {}),
    ("signed", (0, -GREATEST - 1), {}), ("signed", (0, GREATEST + 1), {}),
    ("even", (-1,), {}), ("even", (2,), {}),
]
# A method, its base, the value that is written, and its keywords: the range or the contexts are wrong.
WRONG_PLACES = [
    ("choice", 0, 0, {"count": 0}), ("choice", 0, 0, {"count": -1}), ("choice", 0, 0, {"count": 17}),
    ("unary", 0, 0, {"most": -1}), ("unary", 0, 0, {"most": 65}),
    ("flag", -1, True, {}), ("flag", 256, False, {}), ("flag", 256, True, {}),
    ("number", -1, 0, {}), ("number", 241, 0, {}), ("number", 256, 5, {}),
    ("signed", -1, 0, {}), ("signed", 241, 0, {}), ("signed", 256, -5, {}),
]
# Keywords of choices and unary values with the last base that is allowed.
LAST_BASES = [
    ("choice", {"count": count}, 256 - (2 ** (count - 1).bit_length() - 1)) for count in range(2, 17)
] + [
    ("unary", {"most": most}, 256 - min(most, 8)) for most in range(1, 65)
]


class Refusals(unittest.TestCase):
    def places(self):
        for name, base, value, more in WRONG_PLACES:
            yield name, base, value, more
        for name, more, last in LAST_BASES:
            yield name, last + 1, 0, more
            yield name, -1, 0, more
            yield name, 300, 0, more

    def refuse(self, writer, name, arguments, more):
        with self.assertRaises(OutOfRange, msg=f"{name} {arguments} {more}"):
            getattr(writer, name)(*arguments, **more)

    def test_nothing_is_coded(self):
        encoder = Encoder()
        writer = SymbolWriter(encoder)
        writer.number(0, 1000)
        before = encoder.octets()
        chances = [encoder.probability(context) for context in range(256)]
        for name, arguments, more in WRONG_VALUES:
            self.refuse(writer, name, arguments, more)
        for name, base, value, more in self.places():
            self.refuse(writer, name, (base, value), more)
        self.assertEqual(encoder.octets(), before)
        self.assertEqual([encoder.probability(context) for context in range(256)], chances)
        listing = Listing()
        for name, arguments, more in WRONG_VALUES:
            if name != "even":
                self.refuse(SymbolWriter(listing), name, arguments, more)
        for name, base, value, more in self.places():
            self.refuse(SymbolWriter(listing), name, (base, value), more)
        self.assertEqual(listing.steps, [])

    def test_nothing_is_read(self):
        encoder = Encoder()
        SymbolWriter(encoder).number(0, 1000)
        decoder = Decoder(encoder.octets())
        reader = SymbolReader(decoder)
        playing = Playing([])
        for name, base, _, more in self.places():
            self.refuse(reader, name, (base,), more)
            self.refuse(SymbolReader(playing), name, (base,), more)
        self.assertEqual(playing.contexts, [])
        self.assertEqual([decoder.probability(context) for context in range(256)], [2048] * 256)
        self.assertEqual(reader.number(0), 1000)

    def test_writing_goes_on_after_refusals(self):
        encoder, plain = Encoder(), Encoder()
        writer = SymbolWriter(encoder)
        for value in range(10):
            for name, arguments, more in WRONG_VALUES:
                self.refuse(writer, name, arguments, more)
            writer.signed(3, value)
            SymbolWriter(plain).signed(3, value)
        self.assertEqual(encoder.octets(), plain.octets())

    def test_first_and_last_bases(self):
        for name, more, last in LAST_BASES:
            for base in (0, last):
                encoder = Encoder()
                getattr(SymbolWriter(encoder), name)(base, 0, **more)
                self.assertEqual(getattr(SymbolReader(Decoder(encoder.octets())), name)(base, **more), 0)
        for name, last, value in (("flag", 255, True), ("number", 240, GREATEST), ("signed", 240, -GREATEST)):
            for base in (0, last):
                encoder = Encoder()
                getattr(SymbolWriter(encoder), name)(base, value)
                self.assertEqual(getattr(SymbolReader(Decoder(encoder.octets())), name)(base), value)

    def test_values_without_contexts_accept_every_base(self):
        encoder = Encoder()
        writer, reader = SymbolWriter(encoder), SymbolReader(Decoder([255] * 9))
        for base in (-1000, -1, 0, 255, 256, 10 ** 9):
            writer.choice(base, 0, count=1)
            writer.unary(base, 0, most=0)
            self.assertEqual(reader.choice(base, count=1), 0)
            self.assertEqual(reader.unary(base, most=0), 0)
        self.assertEqual(encoder.octets(), [])
        self.assertEqual(reader.even(), 1)


if __name__ == "__main__":
    unittest.main()
