"""Points 56 to 58: the decoder."""

import copy
import itertools
import random
import unittest

from tests.plain_stream import (
    PlainDecoder, plain_decode, plain_stream, plain_units, random_pictures, slice_payload,
)
from tests.plain_syntax import zeros
from thaumatrope.decoder import StreamDecoder, decode_stream
from thaumatrope.frames import Format
from thaumatrope.headers import (
    PictureHeader, Settings, SliceHeader, write_picture, write_settings, write_slice,
)
from thaumatrope.units import write_unit, write_units

# Pictures of two slices, each of one block.
SMALL = Settings(Format(5, 10), slots=3, rows=1, layers=2)
SEQUENCE = 1, write_settings(SMALL)
END = 4, []
WRONG = [[], [0], [1], [255] * 9, write_settings(SMALL) + [128], write_settings(SMALL)[:-1], [2] + SEQUENCE[1][1:]]


def head(number, kind="I", **more):
    """The unit of a picture."""
    return 2, write_picture(SMALL, PictureHeader(SMALL, number=number, kind=kind, **more))


def piece(number, index, value=0, delta=0):
    """The unit of a slice with one intra block, of which the samples are 128 plus a value, at level 0."""
    header = PictureHeader(SMALL, number=number)
    block = ("intra", [0], 0, [[[value] + [0] * 63]])
    return 3, slice_payload(SMALL, header, index, (delta, [None], [block]))


def skips(number, index, value=0):
    """The unit of a slice with one inter block without motion, to whose samples a value is added."""
    header = PictureHeader(SMALL, number=number, kind="P", refs=[0])
    block = ("inter", [(0, 0, (0, 0), None)], 8, [[[value] + [0] * 63]]) if value else ("skip",)
    return 3, slice_payload(SMALL, header, index, (0, [None], [block]))


def frame(upper, lower):
    """The frame of a picture with two slices."""
    return [[[upper] * 5 for _ in range(8)] + [[lower] * 5 for _ in range(2)]]


class Units(unittest.TestCase):
    def take(self, decoder, units):
        """What the decoder returns for units that close no segment with pictures."""
        for kind, payload in units:
            before = list(payload)
            self.assertEqual(decoder.take(kind, payload), [])
            self.assertEqual(payload, before)

    def closed(self, units):
        """The pictures of a segment with these units behind the sequence unit."""
        results = []
        for end in (None, END, SEQUENCE, (1, []), (4, [1, 2, 3])):
            decoder = StreamDecoder()
            self.take(decoder, [SEQUENCE] + units)
            results.append(decoder.finish() if end is None else decoder.take(*end))
            self.assertIsNone(decoder.current_header)
            self.assertEqual(decoder.current_settings, SMALL if end == SEQUENCE else None)
            self.assertEqual(decoder.finish(), [])
            self.assertIsNone(decoder.current_settings)
        for result in results[1:]:
            self.assertEqual(result, results[0])
        octets = write_units([SEQUENCE] + units)
        self.assertEqual(decode_stream(octets), results[0])
        self.assertEqual(plain_decode(octets), results[0])
        return results[0]

    def test_a_new_decoder(self):
        decoder = StreamDecoder()
        self.assertIsNone(decoder.current_settings)
        self.assertIsNone(decoder.current_header)
        self.assertEqual(decoder.finish(), [])
        self.assertIsNone(decoder.current_settings)

    def test_units_without_settings(self):
        for units in ([head(1)], [piece(1, 0)], [END], [(5, [])], [(0, [])], [(17, [3])], [(1, [])],
                      [head(1), piece(1, 0), piece(1, 1), END], [SEQUENCE, END, head(1), piece(1, 0)]):
            decoder = StreamDecoder()
            self.take(decoder, units)
            self.assertIsNone(decoder.current_settings)
            self.assertIsNone(decoder.current_header)
            self.assertEqual(decoder.finish(), [])

    def test_settings_without_a_picture(self):
        for unit in (piece(1, 0), (5, []), (0, []), (6, [1]), (31, []), (2, []), (2, [255] * 20)):
            decoder = StreamDecoder()
            self.take(decoder, [SEQUENCE, unit])
            self.assertEqual(decoder.current_settings, SMALL)
            self.assertIsNone(decoder.current_header)
            self.assertEqual(decoder.finish(), [])

    def test_a_current_picture(self):
        decoder = StreamDecoder()
        self.take(decoder, [SEQUENCE, head(7, store=[0, 2], level=9, layer=1)])
        header = PictureHeader(SMALL, number=7, store=[0, 2], level=9, layer=1)
        self.assertEqual(decoder.current_header, header)
        self.take(decoder, [piece(7, 1), (5, [1]), (0, []), (9, [2]), piece(7, 0), piece(7, 0, 5), (3, [])])
        self.assertEqual(decoder.current_header, header)
        self.assertEqual(decoder.current_settings, SMALL)
        self.take(decoder, [head(8)])
        self.assertEqual(decoder.current_header, PictureHeader(SMALL, number=8))
        self.assertEqual(decoder.finish(), [(7, frame(128, 128), True), (8, frame(128, 128), False)])

    def test_one_picture(self):
        self.assertEqual(self.closed([head(7), piece(7, 0, 1), piece(7, 1, -2)]), [(7, frame(129, 126), True)])
        self.assertEqual(self.closed([head(7), piece(7, 1, -2), piece(7, 0, 1)]), [(7, frame(129, 126), True)])
        self.assertEqual(self.closed([head(0)]), [(0, frame(128, 128), False)])
        self.assertEqual(self.closed([]), [])

    def test_the_level_of_a_slice(self):
        # The step is 1 at level 0, 2 at level 1, and 4 at level 2.
        units = [head(7, level=1), piece(7, 0, 1, delta=1), piece(7, 1, 1, delta=-1)]
        self.assertEqual(self.closed(units), [(7, frame(132, 129), True)])

    def test_other_sequence_payloads(self):
        for payload in WRONG:
            decoder = StreamDecoder()
            self.take(decoder, [SEQUENCE, head(1), piece(1, 0, 9)])
            self.assertEqual(decoder.take(1, payload), [(1, frame(137, 128), False)])
            self.assertIsNone(decoder.current_settings)
            self.assertIsNone(decoder.current_header)
            self.take(decoder, [head(2), piece(2, 0)])
            self.assertIsNone(decoder.current_header)
            self.assertEqual(decoder.finish(), [])

    def test_other_picture_payloads(self):
        # The payload of a picture of the layer 2 and one with the slot 3 are not valid here.
        greater = Settings(SMALL.fmt, slots=4, layers=3)
        wrong = [write_picture(greater, PictureHeader(greater, number=2, layer=2)),
                 write_picture(greater, PictureHeader(greater, number=2, kind="P", refs=[3]))]
        for payload in [[], [0], head(2)[1] + [128], head(2)[1] + [0], [1, 2, 3]] + wrong:
            units = [head(1), piece(1, 0, 9), (2, payload), piece(1, 1, 5), piece(2, 0, 5), piece(2, 1, 5)]
            self.assertEqual(self.closed(units), [(1, frame(137, 128), False)])
            decoder = StreamDecoder()
            self.take(decoder, [SEQUENCE] + units[:3])
            self.assertIsNone(decoder.current_header)
            self.assertEqual(decoder.current_settings, SMALL)
            self.take(decoder, [head(3)])
            self.assertEqual(decoder.current_header.number, 3)

    def test_other_slice_payloads(self):
        good = piece(1, 0, 9)[1]
        for payload in ([], [0], [1], [200] + good[1:], [good[0] + 1] + good[1:], good[:good[0]], [1, 0] + good,
                        piece(2, 0)[1], piece(999, 0)[1]):
            self.assertEqual(self.closed([head(1), (3, payload), piece(1, 1, 2)]), [(1, frame(128, 130), False)])
        # There is a slice 2 in greater pictures only.
        greater = Settings(Format(8, 24), rows=1)
        payload = write_slice(greater, SliceHeader(greater, number=1, index=2), [])
        units = [head(1), (3, payload), piece(1, 0, 1), piece(1, 1, 2)]
        self.assertEqual(self.closed(units), [(1, frame(129, 130), True)])

    def test_the_first_slice_with_an_index_counts(self):
        units = [head(1), piece(1, 0, 1), piece(1, 0, 2), piece(1, 1, 3), piece(1, 0, 4), piece(1, 1, 5)]
        self.assertEqual(self.closed(units), [(1, frame(129, 131), True)])
        # Each picture has slices of its own, also if it has the same number.
        units = [head(1), piece(1, 0, 1), piece(1, 1, 2), head(1), piece(1, 0, 3)]
        self.assertEqual(self.closed(units), [(1, frame(131, 130), False)])

    def test_any_code_of_a_slice_is_read(self):
        header, code = SliceHeader(SMALL, number=1, index=0), [9, 250, 3] * 9
        for octets in ([], [0], [255], [255] * 50, code):
            units = [head(1), (3, write_slice(SMALL, header, octets)), piece(1, 1, 2)]
            (picture,) = self.closed(units)
            self.assertTrue(picture[2])

    def test_units_in_between(self):
        others = [(5, [9, 9]), (0, []), (6, [1]), (31, []), (12, piece(1, 1)[1])]
        plain = [head(1), piece(1, 0, 1), piece(1, 1, 2), head(2), piece(2, 1, 3)]
        expected = [(1, frame(129, 130), True), (2, frame(129, 131), False)]
        self.assertEqual(self.closed(plain), expected)
        for other in others:
            # A bad unit has no written form.
            decoder = StreamDecoder()
            self.take(decoder, [SEQUENCE] + [unit for good in plain for unit in (other, good)] + [other])
            self.assertEqual(decoder.finish(), expected)
        octets = write_units([SEQUENCE])
        for unit in plain:
            octets += [0, 0, 1, 0, 0, 1, 3, 7, 0, 0, 1, 99, 128] + write_unit(*unit)
        self.assertEqual(decode_stream(octets), expected)

    def test_the_order_of_numbers(self):
        units = []
        for number in (5, 999, 0, 7):
            units += [head(number), piece(number, 0, number % 50), piece(number, 1)]
        expected = [(number, frame(128 + number % 50, 128), True) for number in (0, 5, 7, 999)]
        self.assertEqual(self.closed(units), expected)

    def test_pictures_that_are_not_shown(self):
        units = [head(1, shown=False), piece(1, 0, 1), piece(1, 1, 2), head(2), piece(2, 0, 3)]
        # The picture is not shown, but it is the previous one.
        self.assertEqual(self.closed(units), [(2, frame(131, 130), False)])
        self.assertEqual(self.closed(units[:3]), [])
        units = [head(1), piece(1, 0, 1), piece(1, 1, 2), head(1, shown=False), piece(1, 0, 3)]
        self.assertEqual(self.closed(units), [(1, frame(129, 130), True)])

    def test_pictures_with_the_same_number(self):
        units = [head(4), piece(4, 0, 1), piece(4, 1, 1), head(3), piece(3, 0, 2), piece(3, 1, 2), head(4), piece(4, 1, 9)]
        self.assertEqual(self.closed(units), [(3, frame(130, 130), True), (4, frame(130, 137), False)])

    def test_store(self):
        # Pictures that are predicted from each of the slots show what is in them.
        for store in ([], [0], [1], [2], [0, 2], [0, 1, 2]):
            units = [head(10, store=[0, 1, 2]), piece(10, 0, 9), piece(10, 1, 9)]
            units += [head(11, store=store), piece(11, 0, 1), piece(11, 1, 2)]
            for slot in range(3):
                units += [head(slot, "P", refs=[slot]), skips(slot, 0), skips(slot, 1, 4)]
            pictures = self.closed(units)[:3]
            values = [(129, 134) if slot in store else (137, 141) for slot in range(3)]
            self.assertEqual(pictures, [(slot, frame(*values[slot]), True) for slot in range(3)])

    def test_a_slot_may_be_stored_and_referred_to_by_the_same_picture(self):
        units = [head(1, store=[0]), piece(1, 0, 10), piece(1, 1, 20)]
        for number in (2, 3):
            units += [head(number, "P", refs=[0], store=[0]), skips(number, 0, 1), skips(number, 1)]
        expected = [(1, frame(138, 148), True), (2, frame(139, 148), True), (3, frame(140, 148), True)]
        self.assertEqual(self.closed(units), expected)

    def test_empty_slots_and_no_previous_picture_behind_a_sequence_unit(self):
        first = [SEQUENCE, head(1, store=[0, 1, 2]), piece(1, 0, 9), piece(1, 1, 9)]
        second = [head(2, "P", refs=[1]), skips(2, 0, 2)]
        for middle in ([SEQUENCE], [END, SEQUENCE], [(1, []), SEQUENCE], [END, END, SEQUENCE]):
            octets = write_units(first + middle + second)
            expected = [(1, frame(137, 137), True), (2, frame(130, 128), False)]
            self.assertEqual(decode_stream(octets), expected)
        # Without a sequence unit both are still there.
        expected = [(1, frame(137, 137), True), (2, frame(139, 137), False)]
        self.assertEqual(decode_stream(write_units(first + second)), expected)

    def test_another_picture_behind_the_end(self):
        units = [SEQUENCE, head(1), piece(1, 0), piece(1, 1), END, head(2), piece(2, 0), piece(2, 1), END, END]
        self.assertEqual(decode_stream(write_units(units)), [(1, frame(128, 128), True)])

    def test_segments_follow_each_other(self):
        decoder = StreamDecoder()
        other = Settings(Format(2, 1, depth=9))
        self.take(decoder, [SEQUENCE, head(5), piece(5, 0, 1), head(3)])
        expected = [(3, frame(129, 128), False), (5, frame(129, 128), False)]
        self.assertEqual(decoder.take(1, write_settings(other)), expected)
        self.assertEqual(decoder.current_settings, other)
        self.take(decoder, [(2, write_picture(other, PictureHeader(other, number=4)))])
        self.assertEqual(decoder.take(*END), [(4, [[[256, 256]]], False)])
        self.assertEqual(decoder.take(*END), [])
        self.assertEqual(decoder.finish(), [])

    def test_what_is_returned_belongs_to_the_caller(self):
        decoder = StreamDecoder()
        self.take(decoder, [SEQUENCE, head(1, store=[0]), piece(1, 0, 9), piece(1, 1, 9)])
        self.take(decoder, [head(2), head(3, "P", refs=[0])])
        pictures = decoder.take(*SEQUENCE)
        rows = [id(row) for _, picture, _ in pictures for plane in picture for row in plane]
        self.assertEqual(len(set(rows)), 30)
        pictures[0][1][0][0][0] = 77
        self.take(decoder, [head(2), piece(2, 0, 9)])
        self.assertEqual(decoder.finish(), [(2, frame(137, 128), False)])

    def test_a_payload_may_change_later(self):
        decoder = StreamDecoder()
        for kind, payload in [SEQUENCE, head(1), piece(1, 0, 9), piece(1, 1, 8)]:
            payload = list(payload)
            decoder.take(kind, payload)
            payload.clear()
        self.assertEqual(decoder.finish(), [(1, frame(137, 136), True)])


class Plainly(unittest.TestCase):
    """The decoder and the plain one take the same units."""

    def both(self, units):
        decoder, plain = StreamDecoder(), PlainDecoder()
        shown = 0
        for kind, payload in units:
            pictures = decoder.take(kind, payload)
            self.assertEqual(pictures, plain.take(kind, payload))
            self.assertEqual(decoder.current_settings, plain.settings)
            self.assertEqual(decoder.current_header, plain.header)
            shown += len(pictures)
        self.assertEqual(decoder.finish(), plain.close_segment())
        self.assertIsNone(decoder.current_settings)
        self.assertIsNone(decoder.current_header)
        return shown

    def test_all_short_lists_of_units(self):
        units = [SEQUENCE, (1, []), head(1, store=[1]), head(2, "P", refs=[1]), (2, []), piece(1, 0, 7), skips(2, 1, 5),
                 END, (5, [])]
        for three in itertools.product(units, repeat=3):
            self.both([SEQUENCE] + list(three) + [END])

    def test_random_units(self):
        chance = random.Random(57)
        shown = 0
        for chroma, deblock, offset in itertools.product((0, 1, 2), (False, True), (False, True)):
            fmt = Format(12, 20, depth=8 + chroma, chroma=chroma)
            settings = Settings(fmt, slots=chance.randint(1, 4), rows=chance.randint(1, 3), deblock=deblock, offset=offset)
            units = plain_units(settings, random_pictures(chance, settings, 4))
            for _ in range(5):
                mixed = units[:1]
                for unit in units + chance.sample(units, 5) + [(4, [])]:
                    place = chance.randint(max(0, len(mixed) - 3), len(mixed))
                    mixed.insert(place, unit)
                    if chance.randrange(6) == 0:
                        mixed.append((chance.randrange(32), chance.choice(units)[1]))
                shown += self.both([unit for unit in mixed if chance.randrange(9) or unit[0] == 1])
        self.assertGreater(shown, 100)


class Streams(unittest.TestCase):
    def settings(self):
        for chroma, rows in ((0, 1), (1, 2), (2, 32)):
            fmt = Format(10, 18, depth=8 + chroma, chroma=chroma)
            yield Settings(fmt, slots=2, rows=rows, deblock=True, offset=True, layers=2)

    def check(self, octets):
        before = list(octets)
        found = decode_stream(octets)
        self.assertEqual(found, plain_decode(octets))
        self.assertEqual(octets, before)
        return found

    def test_missing_slices(self):
        chance = random.Random(58)
        for settings in self.settings():
            units = plain_units(settings, random_pictures(chance, settings, 4))
            places = [place for place, (kind, _) in enumerate(units) if kind == 3]
            for gone in places:
                left = units[:gone] + units[gone + 1:]
                pictures = self.check(write_units(left))
                self.assertLessEqual(len([True for _, _, complete in pictures if not complete]), 1)
            pictures = self.check(write_units([unit for unit in units if unit[0] != 3]))
            self.assertFalse([True for _, _, complete in pictures if complete])

    def test_any_octets(self):
        chance = random.Random(59)
        for octets in ([], [0], [0] * 50, [0, 0, 1], [0, 0, 1, 1], [0, 0, 1, 128], [1] * 9, [0, 0, 1] * 9, [255] * 30):
            self.assertEqual(self.check(octets), [])
        for _ in range(300):
            self.check([chance.choice((0, 0, 0, 1, 1, 2, 3, 4, 128, chance.randrange(256))) for _ in range(chance.randrange(80))])

    def test_spoilt_streams(self):
        chance = random.Random(60)
        for settings in self.settings():
            stream = plain_stream(settings, random_pictures(chance, settings, 3))
            for _ in range(60):
                place = chance.randrange(len(stream)) if chance.randrange(2) else chance.randrange(40)
                for spoilt in (
                    stream[:place] + [stream[place] ^ 1 << chance.randrange(8)] + stream[place + 1:],
                    stream[:place] + [chance.randrange(256)] + stream[place + 1:],
                    stream[:place] + stream[place + 1:],
                    stream[:place] + [chance.choice((0, 1, 3, 128, 255))] + stream[place:],
                    stream[:place],
                    stream[place:],
                ):
                    decode_stream(spoilt)
                    if chance.randrange(4) == 0:
                        self.check(spoilt)

    def test_a_clean_point(self):
        chance = random.Random(61)
        for settings in self.settings():
            stream = plain_stream(settings, random_pictures(chance, settings, 3))
            other = plain_stream(settings, random_pictures(chance, settings, 2))
            expected = self.check(stream)
            self.assertTrue(expected)
            ahead = [[], [0], [0, 0], [0, 0, 1], [0, 0, 1, 3], [7, 0, 0, 0], other, other[:-5], stream[:-9] + [0, 0]]
            for _ in range(20):
                ahead.append(other[:chance.randrange(len(other))] + [0] * chance.randrange(4))
                ahead.append([chance.choice((0, 0, 1, 2, 128, 255)) for _ in range(chance.randrange(30))])
            for octets in ahead:
                pictures = decode_stream(octets + stream)
                self.assertEqual(pictures[len(pictures) - len(expected):], expected)
                self.assertEqual(pictures[:len(pictures) - len(expected)], decode_stream(octets))

    def test_results_are_new(self):
        settings = next(self.settings())
        stream = plain_stream(settings, random_pictures(random.Random(62), settings, 3))
        first = decode_stream(stream)
        kept = copy.deepcopy(first)
        first[0][1][0][0][0] ^= 1
        self.assertEqual(decode_stream(stream), kept)


if __name__ == "__main__":
    unittest.main()
