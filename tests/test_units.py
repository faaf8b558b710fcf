"""Points 9, 10 and 11: streams of units."""

import itertools
import random
import unittest

from thaumatrope.errors import OutOfRange
from thaumatrope.units import escape, read_units, unescape, write_unit, write_units

PAYLOADS = [
    [], [0], [0, 0], [0, 0, 0], [0] * 9, [1], [0, 0, 1], [0, 0, 2], [0, 0, 3], [0, 0, 3, 3], [0, 0, 4],
    [0, 0, 1, 0, 0, 1, 4, 128], [128], [128, 0], [128, 0, 0, 128], [255] * 3, [3, 3, 3], [5, 0, 0],
    [0, 0, 0, 1, 0, 0, 0, 3], list(range(256)),
]
GREATEST = [[0] * 65536, [7] * 65536, [0, 0, 1, 9] * 16384]


class Escaping(unittest.TestCase):
    def test_examples(self):
        self.assertEqual(escape([0, 0, 2]), [0, 0, 3, 2])
        self.assertEqual(escape([]), [])

    def test_octets_after_two_zeros(self):
        for octet in range(256):
            expected = [9, 0, 0, 3, octet] if octet <= 3 else [9, 0, 0, octet]
            self.assertEqual(escape([9, 0, 0, octet]), expected)
            self.assertEqual(escape([9, 0, octet]), [9, 0, octet])
            self.assertEqual(escape([octet]), [octet])

    def test_runs_of_zeros(self):
        self.assertEqual(escape([0]), [0])
        self.assertEqual(escape([0, 0]), [0, 0])
        self.assertEqual(escape([0] * 3), [0, 0, 3, 0])
        self.assertEqual(escape([0] * 4), [0, 0, 3, 0, 0])
        self.assertEqual(escape([0] * 5), [0, 0, 3, 0, 0, 3, 0])
        self.assertEqual(escape([0] * 3 + [1]), [0, 0, 3, 0, 1])
        self.assertEqual(escape([0] * 4 + [1]), [0, 0, 3, 0, 0, 3, 1])
        self.assertEqual(escape([0] * 4 + [4]), [0, 0, 3, 0, 0, 4])

    def test_threes(self):
        self.assertEqual(escape([0, 0, 3]), [0, 0, 3, 3])
        self.assertEqual(escape([0, 0, 3, 3]), [0, 0, 3, 3, 3])
        self.assertEqual(escape([0, 0, 3, 0, 0, 3]), [0, 0, 3, 3, 0, 0, 3, 3])
        self.assertEqual(escape([3, 3, 0, 3]), [3, 3, 0, 3])

    def test_unescaping_any_octets(self):
        cases = [
            ([], []), ([3], [3]), ([0, 3], [0, 3]), ([0, 0, 3], [0, 0]), ([0, 0, 3, 3], [0, 0, 3]),
            ([0, 0, 0, 3], [0, 0, 0]), ([0, 0, 0, 0, 3, 3], [0, 0, 0, 0, 3]), ([0, 0, 1], [0, 0, 1]),
            ([0, 0, 2, 3], [0, 0, 2, 3]), ([0, 0, 3, 0, 3], [0, 0, 0, 3]), ([0, 3, 0, 3], [0, 3, 0, 3]),
            ([0, 0, 3, 0, 0, 3], [0, 0, 0, 0]), ([0, 0, 4, 3], [0, 0, 4, 3]), ([0, 0, 3, 200], [0, 0, 200]),
        ]
        for octets, expected in cases:
            self.assertEqual(unescape(octets), expected)

    def test_unescaping_undoes_escaping(self):
        for length in range(8):
            for octets in itertools.product((0, 1, 3), repeat=length):
                escaped = escape(list(octets))
                self.assertEqual(unescape(escaped), list(octets))
                text = bytes(escaped)
                for barred in (b"\0\0\0", b"\0\0\1", b"\0\0\2"):
                    self.assertNotIn(barred, text)

    def test_arguments_do_not_change(self):
        for function in (escape, unescape):
            for octets in ([0, 0, 3, 1], [5]):
                given = list(octets)
                made = function(given)
                made.append(1)
                self.assertEqual(given, octets)


class Writing(unittest.TestCase):
    def test_written_forms(self):
        self.assertEqual(write_unit(4, []), [0, 0, 1, 4, 128])
        self.assertEqual(write_unit(1, [7, 8]), [0, 0, 1, 1, 7, 8, 128])
        self.assertEqual(write_unit(31, [0, 0, 0]), [0, 0, 1, 31, 0, 0, 3, 0, 128])
        self.assertEqual(write_unit(2, [0, 0]), [0, 0, 1, 2, 0, 0, 128])

    def test_kinds_at_both_ends_and_beyond(self):
        for kind in (1, 31):
            self.assertEqual(write_unit(kind, [9]), [0, 0, 1, kind, 9, 128])
        for kind in (-1, 0, 32, 256):
            with self.assertRaises(OutOfRange):
                write_unit(kind, [9])
            with self.assertRaises(OutOfRange):
                write_units([(1, []), (kind, [9])])

    def test_payloads_of_the_greatest_length_and_beyond(self):
        for payload in GREATEST:
            octets = write_unit(5, payload)
            self.assertEqual(list(read_units(octets)), [(0, 5, payload)])
            with self.assertRaises(OutOfRange):
                write_unit(5, payload + [1])
            with self.assertRaises(OutOfRange):
                write_units([(5, payload + [1])])

    def test_units_follow_each_other(self):
        self.assertEqual(write_units([]), [])
        self.assertEqual(write_units([(4, []), (1, [3])]), [0, 0, 1, 4, 128, 0, 0, 1, 1, 3, 128])

    def test_arguments_do_not_change(self):
        units = [(1, [0, 0, 1]), (2, [])]
        write_units(units)
        self.assertEqual(units, [(1, [0, 0, 1]), (2, [])])
        payload = [0, 0, 1]
        write_unit(1, payload)
        self.assertEqual(payload, [0, 0, 1])

    def test_0_0_1_occurs_at_the_beginning_only(self):
        for payload in PAYLOADS:
            for kind in (1, 2, 3, 31):
                text = bytes(write_unit(kind, payload))
                self.assertTrue(text.startswith(b"\0\0\1"))
                self.assertEqual(text.find(b"\0\0\1", 1), -1)


class Reading(unittest.TestCase):
    def units(self, octets):
        before = list(octets)
        found = list(read_units(octets))
        self.assertEqual(octets, before)
        return found

    def test_example(self):
        self.assertEqual(self.units([7, 0, 0, 1, 4, 128]), [(1, 4, [])])

    def test_a_generator_is_returned(self):
        units = read_units([0, 0, 1, 4, 128, 0, 0, 1, 5, 6, 128])
        self.assertIs(iter(units), units)
        self.assertEqual(next(units), (0, 4, []))
        self.assertEqual(next(units), (5, 5, [6]))
        with self.assertRaises(StopIteration):
            next(units)

    def test_no_start(self):
        for octets in ([], [0], [0, 0], [0, 0, 2], [1], [0, 1], [0, 0, 0, 0], [1, 0, 0], [0, 1, 0, 1], [255] * 50):
            self.assertEqual(self.units(octets), [])

    def test_starts_that_follow_at_once(self):
        self.assertEqual(self.units([0, 0, 1, 0, 0, 1, 4, 128]), [(0, 0, []), (3, 4, [])])
        self.assertEqual(self.units([0, 0, 1] * 3), [(0, 0, []), (3, 0, []), (6, 0, [])])

    def test_a_start_at_the_very_end(self):
        self.assertEqual(self.units([0, 0, 1]), [(0, 0, [])])
        self.assertEqual(self.units([0, 0, 1, 4, 128, 0, 0, 1]), [(0, 4, []), (5, 0, [])])

    def test_zeros_before_a_start(self):
        for zeros in range(2, 7):
            self.assertEqual(self.units([0] * zeros + [1, 4, 128]), [(zeros - 2, 4, [])])

    def test_zeros_behind_a_unit(self):
        for zeros in range(6):
            behind = [0] * zeros
            self.assertEqual(self.units([0, 0, 1, 4, 7, 128] + behind), [(0, 4, [7])])
            octets = [0, 0, 1, 4, 7, 128] + behind + [0, 0, 1, 5, 128]
            self.assertEqual(self.units(octets), [(0, 4, [7]), (6 + zeros, 5, [])])

    def test_kinds(self):
        for kind in range(256):
            expected = (0, kind, [9]) if 1 <= kind <= 31 else (0, 0, [])
            self.assertEqual(self.units([0, 0, 1, kind, 9, 128]), [expected])

    def test_the_rest_must_end_with_128(self):
        for last in range(1, 256):
            expected = (0, 6, [9]) if last == 128 else (0, 0, [])
            self.assertEqual(self.units([0, 0, 1, 6, 9, last]), [expected])
        for rest in ([], [0], [0, 0, 0], [9, 0], [128, 1, 0], [128, 127]):
            self.assertEqual(self.units([0, 0, 1, 6] + rest), [(0, 0, [])])

    def test_a_payload_may_end_with_128(self):
        self.assertEqual(self.units([0, 0, 1, 6, 128, 128]), [(0, 6, [128])])
        self.assertEqual(self.units([0, 0, 1, 6, 128, 0, 128, 0]), [(0, 6, [128, 0])])

    def test_payloads_are_unescaped(self):
        self.assertEqual(self.units([0, 0, 1, 6, 0, 0, 3, 1, 128]), [(0, 6, [0, 0, 1])])
        self.assertEqual(self.units([0, 0, 1, 6, 0, 0, 3, 128]), [(0, 6, [0, 0])])
        # The run of zeros begins behind the kind, also where the kind is 3.
        self.assertEqual(self.units([0, 0, 1, 3, 0, 0, 2, 128]), [(0, 3, [0, 0, 2])])

    def test_octets_ahead_of_the_first_start(self):
        for ahead in ([1], [0], [0, 0], [0, 0, 0], [128], [0, 0, 2, 0], list(range(256))):
            octets = ahead + [0, 0, 1, 4, 128]
            self.assertEqual(self.units(octets), [(len(ahead), 4, [])])

    def test_length_of_the_payload_after_unescaping(self):
        for payload in GREATEST:
            raw = escape(payload)
            self.assertEqual(self.units([0, 0, 1, 6] + raw + [128]), [(0, 6, payload)])
            # An octet more: a 9 at the front does not change how the others are escaped.
            self.assertEqual(self.units([0, 0, 1, 6, 9] + raw + [128]), [(0, 0, [])])

    def test_reading_what_was_written(self):
        units = [(1 + index % 31, payload) for index, payload in enumerate(PAYLOADS * 3)]
        stream = write_units(units)
        found = self.units(stream)
        self.assertEqual([(kind, payload) for _, kind, payload in found], units)
        place = 0
        for (start, _, _), (kind, payload) in zip(found, units):
            self.assertEqual(start, place)
            place += len(write_unit(kind, payload))

    def test_a_stream_behind_any_octets(self):
        chance = random.Random(11)
        stream = write_units([(1, [0, 0, 1]), (2, []), (3, [0, 0, 0, 128])])
        alone = self.units(stream)
        for _ in range(300):
            ahead = [chance.choice((0, 0, 0, 1, 2, 3, 4, 128, 255)) for _ in range(chance.randrange(20))]
            found = self.units(ahead + stream)
            moved = [(start + len(ahead), kind, payload) for start, kind, payload in alone]
            self.assertEqual(found[-3:], moved)
            self.assertEqual(found[:-3], self.units(ahead))

    def test_any_octets_are_read(self):
        chance = random.Random(12)
        for _ in range(300):
            octets = [chance.choice((0, 0, 0, 1, 1, 3, 4, 128, 255)) for _ in range(60)]
            starts = [index for index in range(58) if octets[index:index + 3] == [0, 0, 1]]
            self.assertEqual([start for start, _, _ in self.units(octets)], starts)


if __name__ == "__main__":
    unittest.main()
