"""Points 12, 13 and 14: coding of decisions."""

import random
import unittest

from thaumatrope.coder import Decoder, Encoder
from thaumatrope.errors import OutOfRange


class PlainEncoder:
    """The encoder in the words of point 13, with a low of any size. A context None is an even decision."""

    def __init__(self):
        self.low, self.span, self.count = 0, 2 ** 32 - 1, 0
        self.chances = [2048] * 256

    def code(self, context, decision):
        p = 2048 if context is None else self.chances[context]
        part = (self.span >> 12) * p
        if decision == 0:
            self.span = part
        else:
            self.low += part
            self.span -= part
        while self.span < 2 ** 24:
            self.low *= 256
            self.span *= 256
            self.count += 1
        if context is not None:
            self.chances[context] = p + ((4096 - p) >> 5) if decision == 0 else p - (p >> 5)

    def octets(self):
        return list(self.low.to_bytes(self.count + 4, "big").rstrip(b"\0"))


class PlainDecoder:
    """The decoder in the words of point 14."""

    def __init__(self, octets):
        self.octets = octets
        first = (octets + [0] * 4)[:4]
        self.value = min(int.from_bytes(bytes(first), "big"), 2 ** 32 - 2)
        self.span, self.index = 2 ** 32 - 1, 4
        self.chances = [2048] * 256

    def read(self, context):
        p = 2048 if context is None else self.chances[context]
        part = (self.span >> 12) * p
        decision = 0 if self.value < part else 1
        if decision == 0:
            self.span = part
        else:
            self.value -= part
            self.span -= part
        while self.span < 2 ** 24:
            following = self.octets[self.index] if self.index < len(self.octets) else 0
            self.value = 256 * self.value + following
            self.index += 1
            self.span *= 256
        if context is not None:
            self.chances[context] = p + ((4096 - p) >> 5) if decision == 0 else p - (p >> 5)
        return decision


def code(coder, context, decision):
    if context is None:
        coder.code_even(decision)
    else:
        coder.code(context, decision)


def read(decoder, context):
    return decoder.read_even() if context is None else decoder.read(context)


def coded(steps):
    encoder = Encoder()
    for context, decision in steps:
        code(encoder, context, decision)
    return encoder


def plainly_coded(steps):
    encoder = PlainEncoder()
    for context, decision in steps:
        encoder.code(context, decision)
    return encoder


def random_steps(seed, count, contexts, ones):
    chance = random.Random(seed)
    return [(chance.choice(contexts), int(chance.random() < ones)) for _ in range(count)]


SEQUENCES = [
    [],
    [(None, 0)], [(None, 1)], [(0, 0)], [(0, 1)], [(255, 1)],
    [(3, 0)] * 500, [(3, 1)] * 500, [(None, 0)] * 100, [(None, 1)] * 100,
    [(3, 0)] * 300 + [(3, 1)] * 300, [(3, 1)] * 300 + [(3, 0)] * 300,
    [(7, index % 2) for index in range(200)],
    random_steps(1, 900, [0, 1, 255, None], 0.5),
    random_steps(2, 900, [0], 0.05),
    random_steps(3, 900, [0], 0.95),
    random_steps(4, 900, list(range(256)), 0.3),
    random_steps(5, 900, [None], 0.5),
    random_steps(6, 900, [9, None], 0.99),
]


class Encoding(unittest.TestCase):
    def test_an_encoder_without_decisions(self):
        self.assertEqual(Encoder().octets(), [])

    def test_example(self):
        encoder = Encoder()
        self.assertIsNone(encoder.code_even(1))
        self.assertEqual(encoder.octets(), [127, 255, 248])

    def test_codes(self):
        self.assertEqual(coded([(None, 0)]).octets(), [])
        self.assertEqual(coded([(0, 1)]).octets(), [127, 255, 248])
        # The second decision has the probability 2048 + 64 after a 0, and 2048 - 64 after a 1.
        part = 1048575 * 2048
        after_0 = (part >> 12) * 2112
        self.assertEqual(coded([(0, 0), (0, 1)]).octets(), list(after_0.to_bytes(4, "big").rstrip(b"\0")))
        after_1 = part + ((2 ** 32 - 1 - part) >> 12) * 1984
        self.assertEqual(coded([(0, 1), (0, 1)]).octets(), list(after_1.to_bytes(4, "big").rstrip(b"\0")))

    def test_codes_are_those_of_the_document(self):
        for steps in SEQUENCES:
            self.assertEqual(coded(steps).octets(), plainly_coded(steps).octets())

    def test_the_code_asked_for_in_the_middle(self):
        for steps in SEQUENCES[:14]:
            encoder, plain = Encoder(), PlainEncoder()
            for context, decision in steps:
                code(encoder, context, decision)
                plain.code(context, decision)
                octets = encoder.octets()
                self.assertEqual(octets, plain.octets())
                octets.extend([1, 2, 3])
                octets[0] = 9

    def test_a_carry_runs_through_several_octets(self):
        # These decisions keep low just below 128 * 256**k; one decision more carries it beyond.
        decoder = PlainDecoder([128])
        decisions = [decoder.read(0) for _ in range(397)]
        before = plainly_coded([(0, decision) for decision in decisions]).octets()
        self.assertEqual(before[:30], [127] + [255] * 29)
        for length in range(1, 397):
            if decisions[length] == 0:
                steps = [(0, decision) for decision in decisions[:length]] + [(0, 1)]
                self.assertEqual(coded(steps).octets(), plainly_coded(steps).octets())
        steps = [(0, decision) for decision in decisions] + [(0, 1)]
        self.assertEqual(coded(steps).octets(), [128] + [0] * 29 + [22, 136, 32, 70])

    def test_a_carry_that_leaves_nothing_behind(self):
        # The last decision carries low to exactly 128 * 256**k.
        steps = [(None, 1)] + [(None, 0)] * 19
        self.assertEqual(coded(steps).octets(), [127, 255, 248])
        self.assertEqual(coded(steps + [(None, 1)]).octets(), [128])
        steps += [(None, 1)] + random_steps(9, 100, [0, None], 0.5)
        self.assertEqual(coded(steps).octets(), plainly_coded(steps).octets())

    def test_coding_after_a_carry(self):
        decoder = PlainDecoder([128])
        steps = [(0, decoder.read(0)) for _ in range(397)] + [(0, 1)]
        steps += random_steps(8, 300, [0, 5, None], 0.5)
        octets = coded(steps).octets()
        self.assertEqual(octets, plainly_coded(steps).octets())
        decoder = Decoder(octets)
        self.assertEqual([read(decoder, context) for context, _ in steps], [decision for _, decision in steps])


class Probabilities(unittest.TestCase):
    def test_every_probability_is_2048_at_first(self):
        for coder in (Encoder(), Decoder([]), Decoder([1, 2, 3])):
            self.assertEqual([coder.probability(context) for context in range(256)], [2048] * 256)

    def test_one_decision(self):
        self.assertEqual(coded([(4, 0)]).probability(4), 2112)
        self.assertEqual(coded([(4, 1)]).probability(4), 1984)
        self.assertEqual(coded([(4, 0), (4, 0)]).probability(4), 2174)
        self.assertEqual(coded([(4, 1), (4, 1)]).probability(4), 1922)

    def test_runs_of_equal_decisions(self):
        for decision, end in ((0, 4065), (1, 31)):
            encoder, plain = Encoder(), PlainEncoder()
            for _ in range(400):
                encoder.code(200, decision)
                plain.code(200, decision)
                self.assertEqual(encoder.probability(200), plain.chances[200])
                self.assertTrue(31 <= encoder.probability(200) <= 4065)
            self.assertEqual(encoder.probability(200), end)

    def test_only_the_probability_of_the_context_changes(self):
        encoder = coded([(10, 1), (255, 0), (0, 1), (None, 1), (None, 0)])
        expected = [2048] * 256
        expected[10], expected[255], expected[0] = 1984, 2112, 1984
        self.assertEqual([encoder.probability(context) for context in range(256)], expected)
        decoder = Decoder(encoder.octets())
        for context in (10, 255, 0, None, None):
            read(decoder, context)
        self.assertEqual([decoder.probability(context) for context in range(256)], expected)

    def test_each_coder_has_its_own(self):
        coded([(10, 1)])
        Decoder([255]).read(3)
        self.assertEqual(Encoder().probability(10), 2048)
        self.assertEqual(Decoder([]).probability(3), 2048)

    def test_probabilities_are_equal_on_both_sides(self):
        for steps in SEQUENCES:
            encoder = coded(steps)
            decoder = Decoder(encoder.octets())
            for context, _ in steps:
                read(decoder, context)
            expected = plainly_coded(steps).chances
            self.assertEqual([encoder.probability(context) for context in range(256)], expected)
            self.assertEqual([decoder.probability(context) for context in range(256)], expected)


class Decoding(unittest.TestCase):
    def test_reading_back(self):
        for steps in SEQUENCES:
            for behind in ([], [0], [0] * 9):
                decoder = Decoder(coded(steps).octets() + behind)
                found = [read(decoder, context) for context, _ in steps]
                self.assertEqual(found, [decision for _, decision in steps])

    def test_any_octets_far_beyond_their_end(self):
        chance = random.Random(21)
        cases = [[], [0], [0] * 5, [255], [255] * 3, [255] * 4, [255] * 5, [255] * 40, [1], [127, 255, 248]]
        cases += [[255, 255, 255, 254], [255, 255, 255, 254, 255], [128, 0, 0, 0, 1]]
        cases += [[chance.randrange(256) for _ in range(length)] for length in (1, 2, 3, 4, 5, 30)]
        contexts = [0, None, 255, 0, 0, 7]
        for octets in cases:
            for pattern in ([None], [0], contexts):
                decoder, plain = Decoder(octets), PlainDecoder(octets)
                for index in range(700):
                    context = pattern[index % len(pattern)]
                    self.assertEqual(read(decoder, context), plain.read(context))
                self.assertEqual([decoder.probability(context) for context in range(256)], plain.chances)

    def test_no_octets(self):
        decoder = Decoder([])
        self.assertEqual([decoder.read_even() for _ in range(100)], [0] * 100)
        self.assertEqual([decoder.read(5) for _ in range(1000)], [0] * 1000)
        self.assertEqual(decoder.probability(5), 4065)

    def test_octets_that_are_all_255(self):
        decoder = Decoder([255] * 60)
        self.assertEqual([decoder.read(5) for _ in range(40)], [1] * 40)
        # The first value is 2**32 - 2: as 2**32 - 1 it would be 1 for each even decision, without end.
        decoder = Decoder([255] * 4)
        found = [decoder.read_even() for _ in range(200)]
        plain = PlainDecoder([255] * 4)
        self.assertEqual(found, [plain.read(None) for _ in range(200)])
        self.assertEqual(found[:22], [1] * 22)
        self.assertIn(0, found)

    def test_the_list_may_change_later_and_is_not_changed(self):
        octets = coded(SEQUENCES[13]).octets()
        before = list(octets)
        decoder = Decoder(octets)
        for context, _ in SEQUENCES[13][:100]:
            read(decoder, context)
        self.assertEqual(octets, before)
        octets.clear()
        found = [read(decoder, context) for context, _ in SEQUENCES[13][100:]]
        self.assertEqual(found, [decision for _, decision in SEQUENCES[13][100:]])


class Refusals(unittest.TestCase):
    def test_an_encoder_goes_on_as_if_it_had_not_been_asked(self):
        steps = SEQUENCES[13][:80]
        encoder = Encoder()
        for context, decision in steps:
            for wrong, value in ((-1, 0), (256, 1), (0, 2), (0, -1), (255, 2), (-1, 2)):
                with self.assertRaises(OutOfRange):
                    encoder.code(wrong, value)
            for value in (-1, 2, 255):
                with self.assertRaises(OutOfRange):
                    encoder.code_even(value)
            for wrong in (-1, 256, 1000):
                with self.assertRaises(OutOfRange):
                    encoder.probability(wrong)
            code(encoder, context, decision)
        plain = plainly_coded(steps)
        self.assertEqual(encoder.octets(), plain.octets())
        self.assertEqual([encoder.probability(context) for context in range(256)], plain.chances)

    def test_a_decoder_goes_on_as_if_it_had_not_been_asked(self):
        steps = SEQUENCES[13][:80]
        decoder = Decoder(coded(steps).octets())
        for context, decision in steps:
            for wrong in (-1, 256, -256, 1000):
                with self.assertRaises(OutOfRange):
                    decoder.read(wrong)
                with self.assertRaises(OutOfRange):
                    decoder.probability(wrong)
            self.assertEqual(read(decoder, context), decision)
        self.assertEqual([decoder.probability(context) for context in range(256)], plainly_coded(steps).chances)


if __name__ == "__main__":
    unittest.main()
