"""Points 7 and 8: bits."""

import random
import unittest

from tests.plain_bits import octets_of, se_of, ue_of
from thaumatrope.bits import BitReader, BitWriter
from thaumatrope.errors import BadOctets, OutOfBits, OutOfRange


def written(bits):
    """A writer that was given a text of bits, one by one."""
    writer = BitWriter()
    for bit in bits:
        writer.put(int(bit), 1)
    return writer


UE_CODES = {0: "1", 1: "010", 2: "011", 3: "00100", 6: "00111", 7: "0001000", 254: "0" * 7 + "1" * 8}
SE_CODES = {0: "1", 1: "010", -1: "011", 2: "00100", -2: "00101", 3: "00110", -3: "00111", 4: "0001000"}
UE_EDGES = [0, 1, 2, 3, 62, 63, 64, 2 ** 31 - 1, 2 ** 31, 2 ** 32 - 2, 2 ** 32 - 1, 2 ** 32]
SE_EDGES = [0, 1, -1, 2, -2, 2 ** 31 - 1, 2 ** 31, -2 ** 31 + 1, -2 ** 31]


class Writing(unittest.TestCase):
    def test_a_writer_without_bits(self):
        writer = BitWriter()
        self.assertEqual(writer.length, 0)
        self.assertEqual(writer.octets(), [128])

    def test_example(self):
        writer = BitWriter()
        writer.put(5, 3)
        self.assertEqual(writer.octets(), [176])
        self.assertEqual(writer.length, 3)

    def test_the_last_octet_is_filled(self):
        for count in range(25):
            writer = written("1" * count)
            self.assertEqual(writer.octets(), octets_of("1" * count))
            self.assertEqual(writer.length, count)
            self.assertEqual(written("0" * count).octets(), octets_of("0" * count))

    def test_numbers_at_both_ends_of_their_ranges(self):
        for count in range(65):
            for value in (0, 2 ** count - 1, 2 ** count // 2, 2 ** count // 3):
                bits = f"{value:b}".zfill(count) if count else ""
                for before in ("", "1", "0110", "1011010"):
                    writer = written(before)
                    self.assertIsNone(writer.put(value, count))
                    self.assertEqual(writer.octets(), octets_of(before + bits))
                    self.assertEqual(writer.length, len(before) + count)

    def test_values_and_counts_beyond_their_ranges(self):
        wrong = [(-1, count) for count in range(65)] + [(2 ** count, count) for count in range(65)]
        wrong += [(0, -1), (0, 65), (1, 65), (0, 1000), (-1, -1)]
        writer = written("101")
        for value, count in wrong:
            with self.assertRaises(OutOfRange):
                writer.put(value, count)
            self.assertEqual(writer.octets(), octets_of("101"))
            self.assertEqual(writer.length, 3)
        writer.put(1, 2)
        self.assertEqual(writer.octets(), octets_of("10101"))

    def test_exponential_codes(self):
        for value, code in UE_CODES.items():
            writer = BitWriter()
            self.assertIsNone(writer.put_ue(value))
            self.assertEqual(writer.octets(), octets_of(code))
            self.assertEqual(writer.length, len(code))
        for value in UE_EDGES:
            writer = written("01101")
            writer.put_ue(value)
            self.assertEqual(writer.octets(), octets_of("01101" + ue_of(value)))

    def test_signed_codes(self):
        for value, code in SE_CODES.items():
            writer = BitWriter()
            self.assertIsNone(writer.put_se(value))
            self.assertEqual(writer.octets(), octets_of(code))
            self.assertEqual(writer.length, len(code))
        for value in SE_EDGES:
            writer = written("01")
            writer.put_se(value)
            self.assertEqual(writer.octets(), octets_of("01" + se_of(value)))

    def test_numbers_without_a_code(self):
        writer = written("0110")
        for value in (-1, 2 ** 32 + 1, 2 ** 40, -2 ** 32):
            with self.assertRaises(OutOfRange):
                writer.put_ue(value)
        for value in (2 ** 31 + 1, -2 ** 31 - 1, 2 ** 32, -2 ** 32):
            with self.assertRaises(OutOfRange):
                writer.put_se(value)
        self.assertEqual(writer.length, 4)
        writer.put_ue(3)
        self.assertEqual(writer.octets(), octets_of("0110" + "00100"))

    def test_octets_in_the_middle(self):
        writer = BitWriter()
        bits = ""
        for value in range(40):
            writer.put_ue(value)
            bits += ue_of(value)
            octets = writer.octets()
            self.assertEqual(octets, octets_of(bits))
            self.assertEqual(octets, writer.octets())
            octets.append(99)
            octets[0] = 77
        self.assertEqual(writer.octets(), octets_of(bits))
        self.assertEqual(writer.length, len(bits))


class Reading(unittest.TestCase):
    def test_the_bits_are_those_before_the_last_1(self):
        for bits in ("", "0", "1", "0000000", "1111111", "00000000", "0101101", "1" * 17, "0" * 23):
            reader = BitReader(octets_of(bits))
            self.assertEqual(reader.left, len(bits))
            self.assertEqual([reader.get(1) for _ in bits], [int(bit) for bit in bits])
            self.assertEqual(reader.left, 0)

    def test_every_last_octet(self):
        for octet in range(1, 256):
            bits = f"{octet:08b}".rstrip("0")[:-1]
            reader = BitReader([170, octet])
            self.assertEqual(reader.left, 8 + len(bits))
            self.assertEqual(reader.get(reader.left), int("10101010" + bits, 2))

    def test_octets_that_no_writer_gives(self):
        for octets in ([], [0], [1, 0], [255, 255, 0], [0, 0, 0], [128, 0, 0]):
            with self.assertRaises(BadOctets):
                BitReader(octets)

    def test_counts(self):
        bits = "1011001110001111" * 5
        for count in range(65):
            for before in range(9):
                reader = BitReader(octets_of(bits))
                reader.get(before)
                value = int("0" + bits[before:before + count], 2)
                self.assertEqual(reader.get(count), value)
                self.assertEqual(reader.left, len(bits) - before - count)

    def test_a_count_of_0_at_the_end(self):
        reader = BitReader([128])
        self.assertEqual(reader.get(0), 0)
        self.assertEqual(reader.left, 0)

    def test_counts_beyond_their_range(self):
        for bits in ("1011", "1011" * 40):
            reader = BitReader(octets_of(bits))
            reader.get(1)
            for count in (-1, 65, -64, 1000):
                with self.assertRaises(OutOfRange):
                    reader.get(count)
                self.assertEqual(reader.left, len(bits) - 1)
            self.assertEqual(reader.get(3), 3)

    def test_too_few_bits(self):
        reader = BitReader(octets_of("1011"))
        for count in (5, 6, 64):
            with self.assertRaises(OutOfBits):
                reader.get(count)
            self.assertEqual(reader.left, 4)
        self.assertEqual(reader.get(4), 11)
        with self.assertRaises(OutOfBits):
            reader.get(1)
        self.assertEqual(reader.get(0), 0)

    def test_codes(self):
        for value in UE_EDGES + list(UE_CODES):
            for before in ("", "1", "1101"):
                reader = BitReader(octets_of(before + ue_of(value) + "011"))
                reader.get(len(before))
                self.assertEqual(reader.get_ue(), value)
                self.assertEqual(reader.left, 3)
        for value in SE_EDGES + list(SE_CODES):
            reader = BitReader(octets_of(se_of(value) + "011"))
            self.assertEqual(reader.get_se(), value)
            self.assertEqual(reader.left, 3)

    def test_codes_of_numbers_that_cannot_be_written(self):
        greatest = "0" * 32 + "1" * 33
        self.assertEqual(BitReader(octets_of(greatest)).get_ue(), 2 ** 33 - 2)
        self.assertEqual(BitReader(octets_of(greatest)).get_se(), -(2 ** 32 - 1))
        odd = "0" * 32 + "1" * 32 + "0"
        self.assertEqual(BitReader(octets_of(odd)).get_ue(), 2 ** 33 - 3)
        self.assertEqual(BitReader(octets_of(odd)).get_se(), 2 ** 32 - 1)

    def test_codes_that_begin_with_33_zeros(self):
        for zeros in (33, 34, 64, 100):
            for behind in ("", "1", "1" * 70):
                bits = "10" + "0" * zeros + behind
                for read in ("get_ue", "get_se"):
                    reader = BitReader(octets_of(bits))
                    reader.get(2)
                    with self.assertRaises(BadOctets):
                        getattr(reader, read)()
                    self.assertEqual(reader.left, len(bits) - 2)
                    self.assertEqual(reader.get(33), 0)

    def test_bits_that_end_within_a_code(self):
        texts = ["", "0", "0" * 32, "01", "001", "0010", "0" * 32 + "1" * 32, "0" * 5 + "10101"]
        for bits in texts:
            for read in ("get_ue", "get_se"):
                reader = BitReader(octets_of("1" + bits))
                reader.get(1)
                with self.assertRaises(OutOfBits):
                    getattr(reader, read)()
                self.assertEqual(reader.left, len(bits))
                if bits:
                    self.assertEqual(reader.get(1), 0)

    def test_the_list_may_change_later(self):
        octets = octets_of("1011" * 5)
        reader = BitReader(octets)
        octets[0] = 0
        octets.clear()
        self.assertEqual(reader.get(20), int("1011" * 5, 2))

    def test_the_list_is_not_changed(self):
        octets = octets_of("1011" * 5)
        reader = BitReader(octets)
        reader.get(20)
        self.assertEqual(octets, octets_of("1011" * 5))

    def test_reading_what_was_written(self):
        chance = random.Random(7)
        for _ in range(60):
            writer = BitWriter()
            calls = []
            for _ in range(chance.randrange(30)):
                form = chance.choice(["put", "put_ue", "put_se"])
                count = chance.randrange(65)
                value = chance.getrandbits(count) if count else 0
                if form == "put":
                    writer.put(value, count)
                elif form == "put_ue":
                    value &= 2 ** 32 - 1
                    writer.put_ue(value)
                else:
                    value = (value & (2 ** 32 - 1)) - 2 ** 31
                    writer.put_se(value)
                calls.append((form, value, count))
            reader = BitReader(writer.octets())
            self.assertEqual(reader.left, writer.length)
            for form, value, count in calls:
                if form == "put":
                    self.assertEqual(reader.get(count), value)
                elif form == "put_ue":
                    self.assertEqual(reader.get_ue(), value)
                else:
                    self.assertEqual(reader.get_se(), value)
            self.assertEqual(reader.left, 0)


if __name__ == "__main__":
    unittest.main()
