"""Points 69 and 70: segments and containers."""

import copy
import random
import unittest

from tests.plain_stream import plain_stream, random_pictures
from thaumatrope.container import open_container, pack_container, seek_container, split_segments
from thaumatrope.decoder import decode_stream
from thaumatrope.errors import BadContainer, CodecError
from thaumatrope.frames import Format
from thaumatrope.headers import Settings, write_settings
from thaumatrope.units import read_units, write_unit, write_units

SEQUENCE = write_unit(1, write_settings(Settings(Format(8, 8))))
MARK = [84, 72, 65, 85]
GREATEST = 2 ** 32 - 1


def number(value, count):
    return list(value.to_bytes(count, "big"))


def plain_container(entries):
    """The octets of a container in the words of point 69."""
    octets = MARK + number(len(entries), 2)
    for time, segment in entries:
        octets += number(time, 4) + number(len(segment), 4)
    return octets + [octet for _, segment in entries for octet in segment]


class Segments(unittest.TestCase):
    def check(self, octets, expected):
        before = list(octets)
        found = split_segments(octets)
        self.assertEqual(found, expected)
        self.assertEqual(octets, before)
        for segment in found:
            segment.clear()
        self.assertEqual(octets, before)

    def test_without_a_good_sequence_unit(self):
        for octets in ([], [0], [1, 2, 3], [0, 0, 1], [0, 0, 1, 1], [0, 0, 1, 1, 5], [0, 0, 1, 1, 0, 0],
                       write_units([(2, [1]), (3, [1]), (4, []), (5, []), (31, [9])]), [0, 0, 1, 33, 128]):
            self.check(octets, [])

    def test_one_segment(self):
        for rest in ([], [0], [0, 0, 0], write_unit(5, []) + [7, 8, 9], write_units([(2, [1]), (4, [])]), [0, 0, 1], [0, 0, 1, 1]):
            self.check(SEQUENCE + rest, [SEQUENCE + rest])
            for ahead in ([], [0], [0, 0], [5, 6], write_units([(4, []), (2, [])]), [0, 0, 1, 1, 7]):
                self.check(ahead + SEQUENCE + rest, [SEQUENCE + rest])

    def test_the_payload_need_not_be_valid(self):
        for payload in ([], [9], [1, 2, 3]):
            unit = write_unit(1, payload)
            self.check([3] + unit + [0, 0] + SEQUENCE, [unit + [0, 0], SEQUENCE])

    def test_octets_that_spoil_the_unit(self):
        self.check(SEQUENCE + [7, 8], [])
        self.check(SEQUENCE + [7, 8] + SEQUENCE, [SEQUENCE])

    def test_several_segments(self):
        tails = [[], [0], write_units([(2, [1]), (3, [2]), (4, [])]), [0, 0, 1, 1, 9], write_unit(5, []) + [1, 2]]
        for one in tails:
            for other in tails:
                self.check([9] + SEQUENCE + one + SEQUENCE + other, [SEQUENCE + one, SEQUENCE + other])
        self.check(SEQUENCE * 5, [SEQUENCE] * 5)

    def test_any_octets(self):
        chance = random.Random(130)
        for _ in range(400):
            octets = []
            for _ in range(chance.randrange(6)):
                octets += chance.choice((SEQUENCE, write_unit(1, []), write_unit(4, []), [0, 0, 1, 1], [0], [7]))
            if octets and chance.randrange(3) == 0:
                octets[chance.randrange(len(octets))] = chance.choice((0, 1, 128, 9))
            starts = [start for start, kind, _ in list(read_units(octets)) if kind == 1]
            self.check(octets, [octets[a:b] for a, b in zip(starts, starts[1:] + [len(octets)])])


class Packing(unittest.TestCase):
    def check(self, entries):
        before = copy.deepcopy(entries)
        octets = pack_container(entries)
        self.assertEqual(octets, plain_container(entries))
        self.assertEqual(entries, before)
        found = open_container(octets)
        self.assertEqual(found, entries)
        self.assertEqual(octets, plain_container(entries))
        for _, segment in found:
            segment.append(1)
        self.assertEqual((octets, entries), (plain_container(before), before))

    def test_by_hand(self):
        self.assertEqual(pack_container([(5, [1, 2])]), [84, 72, 65, 85, 0, 1, 0, 0, 0, 5, 0, 0, 0, 2, 1, 2])
        self.assertEqual(pack_container([]), [84, 72, 65, 85, 0, 0])
        octets = pack_container([(0x01020304, [9] * 258), (GREATEST, [])])
        self.assertEqual(octets[:22], [84, 72, 65, 85, 0, 2, 1, 2, 3, 4, 0, 0, 1, 2, 255, 255, 255, 255, 0, 0, 0, 0])
        self.assertEqual(octets[22:], [9] * 258)

    def test_entries(self):
        self.check([])
        self.check([(0, [])])
        self.check([(GREATEST, [1])])
        self.check([(0, [0, 0, 1]), (1, []), (2, [255] * 70000), (GREATEST - 1, SEQUENCE), (GREATEST, [84])])
        self.check([(7, MARK + [0, 0])])
        chance = random.Random(131)
        for _ in range(50):
            times = sorted(chance.sample(range(2 ** 32), chance.randrange(9)))
            self.check([(time, [chance.randrange(256) for _ in range(chance.randrange(300))]) for time in times])

    def test_the_number_of_entries(self):
        self.check([(time, []) for time in range(300)])
        entries = [(time, []) for time in range(65535)]
        octets = pack_container(entries)
        self.assertEqual(octets[:6], MARK + [255, 255])
        self.assertEqual(len(octets), 6 + 8 * 65535)
        self.assertEqual(open_container(octets), entries)
        with self.assertRaises(BadContainer):
            pack_container(entries + [(65535, [])])
        with self.assertRaises(BadContainer):
            pack_container([(time, []) for time in range(70000)])

    def test_wrong_times(self):
        for times in ([5, 5], [5, 4], [0, 0], [1, 2, 2], [1, 3, 2], [-1], [-5, 3], [2 ** 32], [1, 2 ** 32], [GREATEST] * 2,
                      [3, 1, 2], [-2, -1]):
            entries = [(time, [1]) for time in times]
            with self.assertRaises(BadContainer):
                pack_container(entries)
            self.assertEqual(entries, [(time, [1]) for time in times])
        with self.assertRaises(CodecError):
            pack_container([(-1, [])])


class Opening(unittest.TestCase):
    def refused(self, octets):
        before = list(octets)
        for function in (open_container, lambda octets: seek_container(octets, 5)):
            with self.assertRaises(BadContainer):
                function(octets)
        self.assertEqual(octets, before)

    def test_octets_that_are_no_container(self):
        for octets in ([], [84], MARK, MARK + [0], MARK + [0, 1], MARK + [1, 0], [84, 72, 65, 86, 0, 0], [85, 72, 65, 85, 0, 0],
                       [84, 72, 65, 85, 0, 0, 0], [0] * 6, [84, 84, 72, 65, 85, 0, 0]):
            self.refused(octets)

    def test_cut_anywhere(self):
        octets = pack_container([(5, [1, 2, 3]), (300, []), (70000, [9] * 5)])
        for end in range(len(octets)):
            self.refused(octets[:end])
            self.refused(octets[end + 1:])
        for more in ([0], [1, 2], MARK):
            self.refused(octets + more)

    def test_one_octet_left_out_or_put_in(self):
        entries = [(5, [1, 2, 3]), (300, []), (70000, [9] * 5)]
        octets = pack_container(entries)
        for place in range(len(octets) + 1):
            for octet in (0, 1, 84, 255):
                self.refused(octets[:place] + [octet] + octets[place:])
        for place in range(len(octets)):
            self.refused(octets[:place] + octets[place + 1:])

    def test_one_octet_changed(self):
        entries = [(5, [1, 2, 3]), (300, []), (70000, [9] * 5)]
        octets = pack_container(entries)
        valid = 0
        for place in range(len(octets)):
            for octet in range(256):
                changed = octets[:place] + [octet] + octets[place + 1:]
                in_times = place in (6, 7, 8, 9, 14, 15, 16, 17, 22, 23, 24, 25)
                if not in_times and place < 30:
                    if octet != octets[place]:
                        self.refused(changed)
                    continue
                times = [int.from_bytes(bytes(changed[k:k + 4]), "big") for k in (6, 14, 22)]
                if times[0] < times[1] < times[2]:
                    found = open_container(changed)
                    self.assertEqual([time for time, _ in found], times)
                    self.assertEqual([len(segment) for _, segment in found], [3, 0, 5])
                    self.assertEqual(pack_container(found), changed)
                    valid += 1
                else:
                    self.refused(changed)
        self.assertGreater(valid, 2000)

    def test_times_that_do_not_ascend(self):
        for times in ([5, 5], [5, 4], [0, 0], [1, 2, 2], [1, 3, 2]):
            self.refused(plain_container([(time, [1]) for time in times]))

    def test_lengths_beyond_the_end(self):
        for length in (2, 3, 255, 2 ** 31, GREATEST):
            self.refused(MARK + [0, 1] + number(5, 4) + number(length, 4) + [7])
        self.refused(MARK + [0, 1] + number(5, 4) + number(0, 4) + [7])
        # The sum of the lengths is right only if each of them is.
        self.refused(MARK + [0, 2] + number(5, 4) + number(9, 4) + number(6, 4) + number(9, 4) + [7])

    def test_any_octets(self):
        chance = random.Random(132)
        for _ in range(500):
            octets = MARK + [0, chance.randrange(3)] + [chance.choice((0, 0, 0, 1, 2)) for _ in range(chance.randrange(20))]
            try:
                found = open_container(octets)
            except BadContainer:
                continue
            self.assertEqual(pack_container(found), octets)


class Seeking(unittest.TestCase):
    def test_times(self):
        segments = {10: [1, 2], 20: [3], 21: [], 40: [4, 5, 6]}
        octets = pack_container(list(segments.items()))
        before = list(octets)
        everything = [1, 2, 3, 4, 5, 6]
        expected = [
            (-10 ** 12, everything), (-1, everything), (0, everything), (9, everything), (10, everything), (11, everything),
            (19, everything), (20, everything[2:]), (21, everything[3:]), (22, everything[3:]), (39, everything[3:]),
            (40, everything[3:]), (41, everything[3:]), (GREATEST, everything[3:]), (10 ** 12, everything[3:]),
        ]
        for time, rest in expected:
            self.assertEqual(seek_container(octets, time), rest)
        self.assertEqual(octets, before)
        octets = pack_container([(0, [7]), (GREATEST, [8])])
        for time, rest in ((-1, [7, 8]), (0, [7, 8]), (GREATEST - 1, [7, 8]), (GREATEST, [8]), (GREATEST + 1, [8])):
            self.assertEqual(seek_container(octets, time), rest)

    def test_a_container_without_segments(self):
        for time in (-1, 0, 5, GREATEST, 10 ** 20):
            self.assertEqual(seek_container(MARK + [0, 0], time), [])

    def test_later_changes(self):
        octets = pack_container([(1, [1, 2])])
        found = seek_container(octets, 1)
        found.append(3)
        self.assertEqual(seek_container(octets, 1), [1, 2])

    def test_decoding_from_there_on(self):
        chance = random.Random(133)
        for chroma in (0, 1, 2):
            stream = [4, 5]
            for _ in range(4):
                settings = Settings(Format(9, 10, chroma=chroma), slots=2, rows=1, deblock=True, offset=True)
                part = plain_stream(settings, random_pictures(chance, settings, 2))
                stream += part[:chance.choice((len(part), len(part) - 5))]
            segments = split_segments(stream)
            self.assertEqual(len(segments), 4)
            self.assertEqual([4, 5] + sum(segments, []), stream)
            decoded = decode_stream(stream)
            octets = pack_container([(100 * place, segment) for place, segment in enumerate(segments)])
            counts = [len(decode_stream(segment)) for segment in segments]
            for time in (-5, 0, 99, 100, 150, 200, 299, 300, 10 ** 10):
                first = max(0, min(3, time // 100))
                self.assertEqual(decode_stream(seek_container(octets, time)), decoded[sum(counts[:first]):])


if __name__ == "__main__":
    unittest.main()
