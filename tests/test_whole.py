"""Points 1, 3, 11, 58, 62, 68 and 70: what the document promises over the whole program."""

import inspect
import itertools
import random
import unittest

from tests.plain_frames import moving_frame, random_frame
from tests.plain_stream import plain_decode, plain_units
from thaumatrope import errors
from thaumatrope.container import open_container, pack_container, seek_container, split_segments
from thaumatrope.decoder import StreamDecoder, decode_stream
from thaumatrope.encoder import encode_frames, rebuild_pictures, write_stream
from thaumatrope.frames import Format, squared_error
from thaumatrope.headers import PictureHeader, Settings
from thaumatrope.layers import drop_layers, is_layered
from thaumatrope.rate import control_frames
from thaumatrope.report import report_stream
from thaumatrope.search import search_frames
from thaumatrope.units import read_units, write_units


def all_settings():
    """Each chroma kind, one slice and several, one slot and several, with both filters, each of them, and none."""
    sizes = itertools.cycle([(16, 20), (11, 17), (20, 9)])
    for chroma, (deblock, offset) in itertools.product((0, 1, 2), itertools.product((False, True), repeat=2)):
        for rows, slots in ((1, 3), (32, 1), (2, 2)):
            fmt = Format(*next(sizes), depth=(8, 10, 12)[chroma], chroma=chroma)
            yield Settings(fmt, slots=slots, rows=rows, deblock=deblock, offset=offset, layers=3)


def headers_of(settings, level):
    """Pictures of each kind: layered, in an order of their own, and one of them not shown."""
    last = settings.slots - 1
    edge = 3 if settings.deblock else 0
    parts = [
        {"number": 0, "store": [0, last] if last else [0]},
        {"number": 4, "kind": "P", "refs": [0], "store": [last]},
        {"number": 2, "kind": "B", "refs": [0, last], "weight": 5, "layer": 1},
        {"number": 1, "kind": "P", "refs": [last, 0], "store": [], "layer": 2, "shown": False},
        {"number": 3, "kind": "B", "refs": [last, last], "layer": 2},
    ]
    return [PictureHeader(settings, level=level, edge=edge, **part) for part in parts]


class Encoded(unittest.TestCase):
    def frames_of(self, chance, settings, make=moving_frame):
        if make == random_frame:
            return [random_frame(chance, settings.fmt) for _ in range(5)]
        return [moving_frame(chance, settings.fmt, time) for time in range(5)]

    def choices(self, chance):
        return [chance.randint(0, 2 ** 32) for _ in range(3000)]

    def test_the_decoder_returns_the_pictures_of_the_encoder(self):
        chance = random.Random(160)
        for settings in all_settings():
            frames = self.frames_of(chance, settings, chance.choice((moving_frame, random_frame)))
            for level in (0, 5, 31):
                pictures = encode_frames(settings, frames, headers_of(settings, level), self.choices(chance))
                rebuilt = rebuild_pictures(settings, pictures)
                decoded = decode_stream(write_stream(settings, pictures))
                self.assertEqual(decoded, rebuilt)
                self.assertEqual([(number, complete) for number, _, complete in decoded],
                                 [(number, True) for number in (0, 2, 3, 4)])
                if level == 0:
                    self.assertEqual([frame for _, frame, _ in decoded], [frames[number] for number in (0, 2, 3, 4)])

    def test_searched_pictures(self):
        chance = random.Random(161)
        for settings in list(all_settings())[::2]:
            frames = self.frames_of(chance, settings)
            errors_of = []
            for level in (0, 8):
                pictures = search_frames(settings, frames, headers_of(settings, level), weight=2 if level else 0)
                decoded = decode_stream(write_stream(settings, pictures))
                self.assertEqual(decoded, rebuild_pictures(settings, pictures))
                errors_of.append(sum(squared_error(settings.fmt, frames[number], frame) for number, frame, _ in decoded))
            self.assertEqual(errors_of[0], 0)
            self.assertGreater(errors_of[1], 0)

    def test_units_and_reports(self):
        chance = random.Random(162)
        for settings in list(all_settings())[::3]:
            headers = headers_of(settings, 7)
            pictures = encode_frames(settings, self.frames_of(chance, settings), headers, self.choices(chance))
            stream = write_stream(settings, pictures)
            units = [(kind, payload) for _, kind, payload in read_units(stream)]
            self.assertEqual(units, plain_units(settings, pictures) + [(4, [])])
            self.assertEqual(write_units(units), stream)
            ahead = [1, 2, 0, 0]
            found = list(read_units(ahead + stream))
            self.assertEqual([(start - 4, kind, payload) for start, kind, payload in found], list(read_units(stream)))
            notes = [row[3] for row in report_stream(stream)]
            self.assertEqual(notes.count("ignored") + notes.count("bad"), 0)
            self.assertEqual(len(notes), 2 + 5 + 5 * settings.slices())


class Damaged(unittest.TestCase):
    def stream_of(self, chance, settings, level=6):
        frames = [moving_frame(chance, settings.fmt, time) for time in range(5)]
        choices = [chance.randint(0, 2 ** 32) for _ in range(3000)]
        return write_stream(settings, encode_frames(settings, frames, headers_of(settings, level), choices))

    def spoilt(self, chance, stream):
        """The stream with faults at a few places."""
        octets = list(stream)
        for _ in range(chance.randint(1, 4)):
            place = chance.randrange(len(octets))
            way = chance.randrange(5)
            if way == 0:
                octets[place] ^= 1 << chance.randrange(8)
            elif way == 1:
                octets[place] = chance.randrange(256)
            elif way == 2:
                del octets[place]
            elif way == 3:
                octets.insert(place, chance.choice((0, 1, 3, 255)))
            else:
                del octets[max(place, 9):]
        return octets

    def test_damage_ends_at_a_clean_point(self):
        chance = random.Random(163)
        for settings in list(all_settings())[::2]:
            first, second = self.stream_of(chance, settings), self.stream_of(chance, settings)
            expected = decode_stream(second)
            self.assertEqual(len(expected), 4)
            for _ in range(4):
                damaged = self.spoilt(chance, first)
                pictures = decode_stream(damaged + second)
                self.assertEqual(pictures[len(pictures) - 4:], expected)
                self.assertEqual(pictures[:len(pictures) - 4], decode_stream(damaged))

    def test_any_octets_are_taken_by_everything(self):
        chance = random.Random(164)
        settings = list(all_settings())[4]
        stream = self.stream_of(chance, settings)
        for _ in range(60):
            octets = self.spoilt(chance, stream)
            decoded = decode_stream(octets)
            self.assertEqual(decoded, plain_decode(octets))
            for number, frame, complete in decoded:
                self.assertTrue(0 <= number <= 999 and complete in (True, False) and frame)
            self.assertEqual(len(report_stream(octets)), len(list(read_units(octets))))
            for most in range(4):
                decode_stream(drop_layers(octets, most))
            segments = split_segments(octets)
            self.assertEqual(sum(segments, []), octets[len(octets) - sum(len(part) for part in segments):])

    def test_missing_slices_are_concealed(self):
        chance = random.Random(165)
        for settings in [settings for settings in all_settings() if settings.slices() > 1][::2]:
            frames = [moving_frame(chance, settings.fmt, time) for time in range(5)]
            pictures = search_frames(settings, frames, headers_of(settings, 4), weight=1)
            units = plain_units(settings, pictures)
            whole = {number: frame for number, frame, _ in decode_stream(write_units(units))}
            for gone in [place for place, (kind, _) in enumerate(units) if kind == 3]:
                decoder = StreamDecoder()
                for kind, payload in units[:gone] + units[gone + 1:]:
                    self.assertEqual(decoder.take(kind, payload), [])
                decoded = decoder.finish()
                self.assertEqual([number for number, _, _ in decoded], [0, 2, 3, 4])
                self.assertLessEqual(len([True for _, _, complete in decoded if not complete]), 1)
                # Pictures before the one with the missing slice are as they were.
                before = [header.number for header, _ in pictures[:[kind for kind, _ in units[:gone]].count(2) - 1]]
                for number, frame, _ in decoded:
                    if number in before:
                        self.assertEqual(frame, whole[number])


class Above(unittest.TestCase):
    def test_the_rate_stays_within_the_buffer(self):
        chance = random.Random(166)
        for settings in list(all_settings())[::5]:
            frames = [moving_frame(chance, settings.fmt, time) for time in range(5)]
            headers = headers_of(settings, 2)
            _, free = control_frames(settings, frames, headers, weight=4, rate=0, capacity=10 ** 9)
            sizes = [size for _, size, _ in free]
            capacity = max(sizes) * 3 // 4
            rate = sum(sizes) // 8
            pictures, trace = control_frames(settings, frames, headers, weight=4, rate=rate, capacity=capacity)
            self.assertLessEqual(max(fullness for _, _, fullness in trace), capacity)
            self.assertTrue([True for level, _, _ in trace if level > 2])
            stream = write_stream(settings, pictures)
            self.assertEqual(decode_stream(stream), rebuild_pictures(settings, pictures))
            self.assertEqual(len(stream), sum(size for _, size, _ in trace) + len(write_stream(settings, [])))

    def test_layers_can_be_dropped(self):
        chance = random.Random(167)
        for settings in all_settings():
            frames = [moving_frame(chance, settings.fmt, time) for time in range(5)]
            headers = headers_of(settings, 9)
            self.assertTrue(is_layered(settings, headers))
            pictures = encode_frames(settings, frames, headers, [chance.randint(0, 2 ** 32) for _ in range(2000)])
            stream = write_stream(settings, pictures)
            decoded = decode_stream(stream)
            for most, numbers in ((0, [0, 4]), (1, [0, 2, 4]), (2, [0, 2, 3, 4]), (3, [0, 2, 3, 4])):
                rest = drop_layers(stream, most)
                self.assertEqual(decode_stream(rest), [row for row in decoded if row[0] in numbers])
                kept = [picture for picture in pictures if picture[0].layer <= most]
                self.assertEqual(rest, write_stream(settings, kept))

    def test_seeking(self):
        chance = random.Random(168)
        parts = []
        for settings in list(all_settings())[::6]:
            frames = [moving_frame(chance, settings.fmt, time) for time in range(5)]
            parts.append(write_stream(settings, encode_frames(settings, frames, headers_of(settings, 5), [7, 8, 9] * 300)))
        stream = sum(parts, [])
        self.assertEqual(split_segments(stream), parts)
        container = pack_container([(1000 * place, part) for place, part in enumerate(parts)])
        self.assertEqual([segment for _, segment in open_container(container)], parts)
        decoded = decode_stream(stream)
        for time in range(-500, 1000 * len(parts) + 1000, 500):
            first = max(0, min(len(parts) - 1, time // 1000))
            self.assertEqual(decode_stream(seek_container(container, time)), decoded[4 * first:])


class Errors(unittest.TestCase):
    def test_all_exceptions_are_codec_errors(self):
        classes = [made for _, made in inspect.getmembers(errors, inspect.isclass)]
        self.assertEqual(len(classes), 11)
        for made in classes:
            self.assertTrue(issubclass(made, errors.CodecError) and issubclass(made, ValueError))


if __name__ == "__main__":
    unittest.main()
