"""Points 72 and 73: the desk."""

import itertools
import random
import unittest

from thaumatrope.decoder import decode_stream
from thaumatrope.desk import Desk
from thaumatrope.encoder import encode_frames, write_stream
from thaumatrope.errors import BadCommand, CodecError, OutOfRange
from thaumatrope.frames import Format, flat_frame, squared_error
from thaumatrope.headers import PictureHeader, Settings
from thaumatrope.report import report_stream
from thaumatrope.search import search_frames

SMALL = "format 8 8 8 0 1 1 0 0 1"


class Desks(unittest.TestCase):
    def desk(self, *lines):
        """A desk that has executed lines."""
        desk = Desk()
        for line in lines:
            self.assertIsInstance(desk.run(line), str)
        return desk

    def refused(self, desk, line, error=BadCommand):
        with self.assertRaises(error):
            desk.run(line)

    def answers(self, desk, *lines):
        return [desk.run(line) for line in lines]


class Model:
    """What a desk has, in the words of point 72."""

    def __init__(self, settings):
        self.settings, self.frames, self.headers, self.stream = settings, [], [], []

    def flat(self, value):
        self.frames.append(flat_frame(self.settings.fmt, value))

    def ramp(self, a, b, v):
        fmt = self.settings.fmt
        sizes = [fmt.size(plane) for plane in range(fmt.planes)]
        self.frames.append([
            [[(a * i + b * j + v) % 2 ** fmt.depth for i in range(width)] for j in range(height)] for width, height in sizes
        ])

    def header(self, number, level, kind="I"):
        refs = [0] if kind == "P" else []
        self.headers.append(PictureHeader(self.settings, number=number, level=level, kind=kind, store=[0], refs=refs))

    def encode(self, *choices):
        self.stream = write_stream(self.settings, encode_frames(self.settings, self.frames, self.headers, list(choices)))

    def search(self, weight):
        self.stream = write_stream(self.settings, search_frames(self.settings, self.frames, self.headers, weight=weight))

    def decoded(self):
        texts = []
        for number, frame, complete in decode_stream(self.stream):
            error = squared_error(self.settings.fmt, self.frames[number], frame)
            texts.append(f"{number} {int(complete)} {error}")
        return ", ".join(texts) or "none"

    def notes(self):
        return ", ".join([row[3] for row in report_stream(self.stream)]) or "none"


class Commands(Desks):
    def both(self, desk, model):
        """The stream of the desk is that of the model, as far as the desk shows it."""
        self.assertEqual(desk.run("decode"), model.decoded())
        self.assertEqual(desk.run("units"), model.notes())

    def test_the_example(self):
        desk = self.desk()
        self.assertEqual(desk.run("format 8 8 8 0 1 1 0 0 1"), "ok")
        self.refused(desk, "flat 300")

    def test_a_session_by_hand(self):
        desk = self.desk(SMALL)
        self.assertEqual(self.answers(desk, "decode", "units"), ["none", "none"])
        self.assertEqual(self.answers(desk, "flat 130", "flat 0", "flat 255", "ramp 1 0 7"), ["0", "1", "2", "3"])
        self.assertEqual(self.answers(desk, "intra 0 0", "inter 3 0"), ["ok", "ok"])
        length = int(desk.run("encode"))
        self.assertEqual(desk.run("decode"), "0 1 0, 3 1 0")
        self.assertEqual(desk.run("units"), "sequence 8x8, picture I 0, slice 0 0, picture P 3, slice 3 0, end")
        # The end unit has 5 octets: without it the rest is the same. The octet 33 makes it a bad unit.
        self.assertEqual(desk.run(f"damage {length - 2} 33"), "ok")
        self.assertEqual(desk.run("decode"), "0 1 0, 3 1 0")
        self.assertEqual(desk.run("units"), "sequence 8x8, picture I 0, slice 0 0, picture P 3, slice 3 0, bad")
        self.assertEqual(desk.run(f"damage {length - 2} 5"), "ok")
        self.assertEqual(desk.run("units"), "sequence 8x8, picture I 0, slice 0 0, picture P 3, slice 3 0, note")
        self.assertEqual(desk.run("damage 3 2"), "ok")
        self.assertEqual(desk.run("decode"), "none")

    def test_the_sequence_unit_is_the_first_one(self):
        desk = self.desk(SMALL, "flat 130", "intra 0 0", "encode")
        model = Model(Settings(Format(8, 8)))
        model.flat(130)
        model.header(0, 0)
        model.encode()
        self.assertEqual(desk.run("encode"), str(len(model.stream)))
        for place, octet in ((0, 1), (1, 7), (3, 5), (4, 2), (len(model.stream) - 1, 0)):
            self.assertEqual(desk.run(f"damage {place} {octet}"), "ok")
            model.stream[place] = octet
            self.both(desk, model)

    def test_a_missing_slice(self):
        desk = self.desk("format 8 16 8 0 1 1 0 0 1", "flat 100", "flat 104", "flat 90", "intra 0 0", "inter 1 0", "encode")
        units = report_stream(self.stream_of("8 16"))
        self.assertEqual([row[3] for row in units][5], "slice 1 0")
        # The slice is concealed: 64 samples are 100 in place of 104.
        self.assertEqual(desk.run(f"damage {units[5][0] + 3} 9"), "ok")
        self.assertEqual(desk.run("decode"), f"0 1 0, 1 0 {64 * 16}")
        self.assertEqual(desk.run("units"), "sequence 8x16, picture I 0, slice 0 0, slice 0 1, picture P 1, ignored, slice 1 1, end")

    def stream_of(self, size):
        width, height = [int(word) for word in size.split()]
        model = Model(Settings(Format(width, height)))
        for value in (100, 104, 90):
            model.flat(value)
        model.header(0, 0)
        model.header(1, 0, "P")
        model.encode()
        return model.stream

    def test_formats(self):
        cases = [
            ("1 1 8 0 1 1 0 0 1", Settings(Format(1, 1))),
            ("256 9 12 2 4 32 1 1 4", Settings(Format(256, 9, depth=12, chroma=2), slots=4, rows=32, deblock=True, offset=True, layers=4)),
            ("17 5 10 1 2 3 1 0 2", Settings(Format(17, 5, depth=10, chroma=1), slots=2, rows=3, deblock=True, layers=2)),
            ("5 40 9 1 2 2 0 1 3", Settings(Format(5, 40, depth=9, chroma=1), slots=2, rows=2, offset=True, layers=3)),
        ]
        for words, settings in cases:
            desk = self.desk("format " + words, "ramp 3 5 7", "ramp 900 1 2", "intra 0 3", "inter 1 3")
            model = Model(settings)
            model.ramp(3, 5, 7)
            model.ramp(900, 1, 2)
            model.header(0, 3)
            model.header(1, 3, "P")
            choices = list(range(1, 200))
            model.encode(*choices)
            line = " ".join(["encode"] + [str(number) for number in choices])
            self.assertEqual(desk.run(line), str(len(model.stream)))
            self.both(desk, model)

    def test_the_switches(self):
        found = set()
        for deblock, offset in itertools.product((0, 1), repeat=2):
            desk = self.desk(f"format 16 16 8 0 1 2 {deblock} {offset} 1", "ramp 9 4 0", "intra 0 6")
            model = Model(Settings(Format(16, 16), rows=2, deblock=deblock == 1, offset=offset == 1))
            model.ramp(9, 4, 0)
            model.header(0, 6)
            # With the switch offset there is an item with the direction 0, without it these are modes.
            model.encode(1, 1, 0, 2, 12, 3, 12)
            self.assertEqual(desk.run("encode 1 1 0 2 12 3 12"), str(len(model.stream)))
            self.both(desk, model)
            found.add(desk.run("decode"))
        self.assertEqual(len(found), 4)

    def test_flat_frames(self):
        desk = self.desk("format 3 3 9 1 1 1 0 0 1", "flat 0", "flat 511", "flat 5", "intra 2 0", "intra 1 0", "encode")
        self.assertEqual(desk.run("decode"), "1 1 0, 2 1 0")
        self.refused(desk, "flat 512")
        self.assertEqual(desk.run("flat 9"), "3")

    def test_ramps(self):
        for words, fmt in (("9 11 8 1", Format(9, 11, chroma=1)), ("10 3 12 2", Format(10, 3, depth=12, chroma=2))):
            settings = Settings(fmt)
            numbers = [(0, 0, 0), (1, 0, 0), (0, 1, 0), (7, 100, 250), (999999999, 999999999, 999999999), (4096, 256, 4095)]
            lines = [f"ramp {a} {b} {v}" for a, b, v in numbers]
            desk = self.desk(f"format {words} 1 1 0 0 1")
            self.assertEqual(self.answers(desk, *lines), [str(place) for place in range(6)])
            model = Model(settings)
            for a, b, v in numbers:
                model.ramp(a, b, v)
            for number in range(6):
                desk.run(f"intra {number} 9")
                model.header(number, 9)
            model.search(3)
            self.assertEqual(desk.run("search 3"), str(len(model.stream)))
            self.both(desk, model)

    def test_headers(self):
        settings = Settings(Format(8, 8), slots=2, deblock=True, layers=2)
        desk = self.desk("format 8 8 8 0 2 1 1 0 2")
        model = Model(settings)
        for number in range(4):
            desk.run(f"ramp {number} 7 {40 * number}")
            model.ramp(number, 7, 40 * number)
        for number, level, kind in ((2, 31, "I"), (0, 0, "P"), (3, 9, "P"), (1, 4, "I")):
            self.assertEqual(desk.run(f"{'intra' if kind == 'I' else 'inter'} {number} {level}"), "ok")
            model.header(number, level, kind)
            model.encode(5, 1, 2, 3)
            self.assertEqual(desk.run("encode 5 1 2 3"), str(len(model.stream)))
            self.both(desk, model)
        self.assertEqual(desk.run("units").split(", ")[1::2], ["picture I 2", "picture P 0", "picture P 3", "picture I 1", "end"])

    def test_search_and_encode_again(self):
        desk = self.desk(SMALL, "ramp 5 6 7", "ramp 6 6 6", "intra 0 8", "inter 1 8")
        model = Model(Settings(Format(8, 8)))
        model.ramp(5, 6, 7)
        model.ramp(6, 6, 6)
        model.header(0, 8)
        model.header(1, 8, "P")
        for weight in (0, 1, 300, 1000000):
            model.search(weight)
            self.assertEqual(desk.run(f"search {weight}"), str(len(model.stream)))
            self.both(desk, model)
        for choices in ([], [999999999] * 30, [0], [1, 2, 3]):
            model.encode(*choices)
            self.assertEqual(desk.run(" ".join(["encode"] + [str(number) for number in choices])), str(len(model.stream)))
            self.both(desk, model)

    def test_the_stream_stays_until_it_is_written_again(self):
        desk = self.desk(SMALL, "flat 7", "intra 0 0", "encode")
        units, decoded = desk.run("units"), desk.run("decode")
        for line in ("flat 9", "inter 1 31", "ramp 1 1 1"):
            desk.run(line)
            self.assertEqual((desk.run("units"), desk.run("decode")), (units, decoded))
        desk.run("encode")
        self.assertEqual(desk.run("units").split(", ")[3], "picture P 1")

    def test_a_format_removes_everything(self):
        desk = self.desk(SMALL, "flat 7", "intra 0 0", "encode")
        self.assertEqual(desk.run(SMALL), "ok")
        self.assertEqual(self.answers(desk, "units", "decode"), ["none", "none"])
        self.refused(desk, "damage 0 0")
        self.refused(desk, "encode")
        self.assertEqual(desk.run("flat 3"), "0")
        self.refused(desk, "search 1")
        self.assertEqual(desk.run("intra 0 0"), "ok")
        self.assertEqual(desk.run("decode"), "none")
        desk.run("search 1")
        self.assertEqual(desk.run("decode"), "0 1 0")

    def test_damage(self):
        desk = self.desk(SMALL, "flat 130", "intra 0 0")
        length = int(desk.run("encode"))
        for place in (length, length + 1, 999999999):
            self.refused(desk, f"damage {place} 0")
        self.assertEqual(desk.run(f"damage {length - 1} 255"), "ok")
        self.assertEqual(desk.run("units"), "sequence 8x8, picture I 0, slice 0 0, bad")
        self.assertEqual(desk.run(f"damage {length - 1} 128"), "ok")
        self.assertEqual(desk.run("units"), "sequence 8x8, picture I 0, slice 0 0, end")

    def test_random_damage(self):
        chance = random.Random(150)
        desk = self.desk("format 16 16 8 1 2 1 1 1 1", "ramp 3 9 5", "ramp 4 9 5", "ramp 3 8 5", "intra 2 6", "inter 0 6", "inter 1 6")
        model = Model(Settings(Format(16, 16, chroma=1), slots=2, deblock=True, offset=True))
        for a, b in ((3, 9), (4, 9), (3, 8)):
            model.ramp(a, b, 5)
        for number, kind in ((2, "I"), (0, "P"), (1, "P")):
            model.header(number, 6, kind)
        compared = refused = 0
        for _ in range(60):
            model.search(9)
            self.assertEqual(desk.run("search 9"), str(len(model.stream)))
            for _ in range(2):
                place = chance.randrange(chance.choice((12, len(model.stream))))
                octet = chance.choice((chance.randrange(256), model.stream[place] ^ 1 << chance.randrange(8)))
                self.assertEqual(desk.run(f"damage {place} {octet}"), "ok")
                model.stream[place] = octet
            self.assertEqual(desk.run("units"), model.notes())
            try:
                expected = model.decoded()
            except (CodecError, IndexError):
                self.refused(desk, "decode")
                refused += 1
            else:
                self.assertEqual(desk.run("decode"), expected)
                compared += 1
        self.assertGreater(compared, 20)
        self.assertGreaterEqual(refused, 1)


class Refusals(Desks):
    def unchanged(self, desk, line, error=BadCommand):
        """The command is refused, and the desk goes on as if it had not been given."""
        before = (desk.run("units"), desk.run("decode"), desk.run("encode"), desk.run("units"))
        self.refused(desk, line, error)
        self.assertEqual((desk.run("units"), desk.run("decode"), desk.run("encode"), desk.run("units")), (before[3],) + before[1:])

    def ready(self):
        """A desk of which each refused command shows that nothing changed."""
        return self.desk(SMALL, "flat 7", "ramp 1 2 3", "intra 0 0", "encode")

    def test_lines(self):
        desk = self.ready()
        lines = ["", " ", "  ", " units", "units ", "flat  7", " flat 7", "flat 7 ", "flat\t7", "units\n", "\nunits", "\t", "\n",
                 "flat 7\n", "flat \x7f", "flat 7\r", "uni\x1fts", "encode 1  2", "encode "]
        for line in lines:
            self.unchanged(desk, line)
            self.refused(Desk(), line)
        self.assertEqual(desk.run("flat 7"), "2")

    def test_characters_beyond_the_printable_ones(self):
        for character in ("\x00", "\x1f", "\x7f", "\x80", "\xe4", "\u0663", "\uff17", "\u2003"):
            self.unchanged(self.ready(), "flat " + character)
            self.unchanged(self.ready(), "flat" + character)

    def test_unknown_words(self):
        for word in ("Format", "FLAT", "flats", "fla", "unit", "none", "7", "!", "~", "decode,", "encode,1", "%", "run", "_frames"):
            self.unchanged(self.ready(), word)
            self.unchanged(self.ready(), word + " 7")

    def test_the_number_of_words(self):
        full = {"format": "8 8 8 0 1 1 0 0 1", "flat": "7", "ramp": "1 2 3", "intra": "1 0", "inter": "1 0", "search": "5", "damage": "0 0"}
        for word, numbers in full.items():
            words = numbers.split()
            for count in range(len(words) + 3):
                if count != len(words):
                    line = " ".join([word] + (words + ["1", "1"])[:count])
                    self.unchanged(self.ready(), line)
        for word in ("decode", "units"):
            for numbers in ("0", "1 2"):
                self.unchanged(self.ready(), f"{word} {numbers}")

    def test_words_that_are_no_numbers(self):
        texts = ["-1", "+1", "00", "01", "007", "1234567890", "0000000000", "1.0", "1,", "a", "0x1", "1e3", "1_0", "-", "~", "''"]
        lines = ["flat X", "ramp X 1 1", "ramp 1 X 1", "ramp 1 1 X", "intra X 0", "intra 1 X", "inter X 0", "inter 1 X", "encode X",
                 "encode 1 X", "encode X 1", "search X", "damage X 0", "damage 0 X"]
        lines += [" ".join(["format"] + ["X" if place == k else "8" for k in range(9)]) for place in range(9)]
        for line in lines:
            for text in texts:
                self.refused(self.ready(), line.replace("X", text))
            self.unchanged(self.ready(), line)
        desk = self.ready()
        # Nine digits are a number.
        self.assertEqual(desk.run("ramp 999999999 0 100000000"), "2")
        desk.run("encode 999999999 100000000 0")

    def test_before_a_format(self):
        for line in ("flat 0", "ramp 1 2 3", "intra 0 0", "inter 0 0", "encode", "encode 1", "search 1", "damage 0 0", "decode", "units"):
            desk = Desk()
            self.refused(desk, line)
            desk.run(SMALL)
            self.assertEqual(self.answers(desk, "units", "decode", "flat 3"), ["none", "none", "0"])

    def test_a_format_that_is_not_valid(self):
        good = [8, 8, 8, 0, 1, 1, 0, 0, 1]
        wrong = {0: (0, 257), 1: (0, 257), 2: (7, 13, 0), 3: (3, 9), 4: (0, 5), 5: (0, 33), 6: (2, 9), 7: (2, 10), 8: (0, 5)}
        for place, values in wrong.items():
            for value in values + (999999999,):
                numbers = [str(value if k == place else number) for k, number in enumerate(good)]
                self.unchanged(self.ready(), " ".join(["format"] + numbers))
                self.refused(Desk(), " ".join(["format"] + numbers))
        # A format that is refused at first is none: the desk still has no settings.
        desk = Desk()
        self.refused(desk, "format 8 8 8 0 5 1 0 0 1")
        self.refused(desk, "units")

    def test_values_out_of_range(self):
        for line in ("flat 256", "flat 999999999", "intra 1000 0", "intra 0 32", "inter 1000 0", "inter 0 32", "intra 999999999 0",
                     "search 1000001", "search 999999999", "damage 0 256", "damage 0 999999999"):
            self.unchanged(self.ready(), line)
        desk = self.ready()
        self.assertEqual(self.answers(desk, "flat 255", "search 1000000")[0], "2")
        self.assertEqual(self.answers(desk, "intra 999 31", "inter 998 31", "damage 0 255"), ["ok", "ok", "ok"])

    def test_encode_and_search(self):
        for line in ("encode", "encode 1 2", "search 0", "search 5"):
            desk = self.desk(SMALL, "flat 1")
            self.refused(desk, line)
            self.assertEqual(self.answers(desk, "units", "decode"), ["none", "none"])
            # Two headers of one number; a number without a frame.
            for more in (["intra 0 0", "intra 0 1"], ["intra 0 0", "inter 0 0"], ["intra 1 0"], ["intra 0 0", "intra 999 0"]):
                desk = self.desk(SMALL, "flat 1", *more)
                self.refused(desk, line)
                self.assertEqual(self.answers(desk, "units", "decode"), ["none", "none"])
            # A stream that was written before is still there.
            desk = self.desk(SMALL, "flat 1", "intra 0 0", "encode", "intra 1 0")
            self.refused(desk, line)
            self.assertEqual(desk.run("units"), "sequence 8x8, picture I 0, slice 0 0, end")
            desk.run("flat 2")
            desk.run(line)
            self.assertEqual(desk.run("units"), "sequence 8x8, picture I 0, slice 0 0, picture I 1, slice 1 0, end")

    def test_damage_without_a_stream(self):
        desk = self.desk(SMALL, "flat 1", "intra 0 0")
        for line in ("damage 0 0", "damage 5 5"):
            self.refused(desk, line)
        self.assertEqual(self.answers(desk, "units", "decode"), ["none", "none"])

    def damaged(self, change, *lines):
        """A desk of which the stream is changed to that of other settings or pictures."""
        desk = self.desk(*lines)
        length = int(desk.run("encode"))
        before = desk.run("decode")
        stream = change(length)
        self.assertEqual(len(stream), length)
        for place, octet in enumerate(stream):
            desk.run(f"damage {place} {octet}")
        return desk, before

    def replaced(self, settings, number, value):
        """A function that makes the stream of one flat picture, as long as another one."""
        def change(length):
            model = Model(settings)
            for _ in range(number + 1):
                model.flat(value)
            model.header(number, 0)
            model.encode(0, 0, 0)
            return model.stream + [0] * (length - len(model.stream))
        return change

    def test_decoded_pictures_that_do_not_belong_to_the_frames(self):
        lines = ("format 8 16 8 0 1 2 0 0 1", "ramp 7 9 3", "ramp 5 5 5", "intra 0 0")
        same = Settings(Format(8, 16), rows=2)
        desk, before = self.damaged(self.replaced(same, 1, 9), *lines)
        model = Model(same)
        model.flat(9)
        model.ramp(5, 5, 5)
        expected = squared_error(same.fmt, *model.frames)
        self.assertEqual(desk.run("decode"), f"1 1 {expected}")
        self.assertNotEqual(before, desk.run("decode"))
        # A sample of the depth 9 that the depth 8 has, too.
        desk, _ = self.damaged(self.replaced(Settings(Format(8, 16, depth=9), rows=2), 1, 9), *lines)
        self.assertEqual(desk.run("decode"), f"1 1 {expected}")
        # Another number, other sizes, another number of planes, and a sample above 255.
        for settings, number, value in (
            (same, 2, 9), (Settings(Format(7, 16), rows=2), 1, 9), (Settings(Format(8, 15), rows=2), 1, 9), (Settings(Format(16, 8)), 1, 9),
            (Settings(Format(8, 16, chroma=1), rows=2), 1, 9), (Settings(Format(8, 16, chroma=2), rows=2), 1, 9),
            (Settings(Format(8, 16, depth=9), rows=2), 1, 256), (Settings(Format(8, 16, depth=12), rows=2), 1, 4095),
        ):
            desk, _ = self.damaged(self.replaced(settings, number, value), *lines)
            units = desk.run("units")
            for _ in range(2):
                self.refused(desk, "decode")
                self.assertEqual(desk.run("units"), units)
            # It is decoded as soon as there is a frame for it.
            if number == 2:
                desk.run("flat 9")
                self.assertEqual(desk.run("decode"), "2 1 0")
            desk.run("encode")
            self.assertEqual(desk.run("decode"), "0 1 0")

    def test_several_faults_at_once(self):
        # A line, a word, the number of words and numbers come before the settings, and so on.
        fresh = Desk()
        for line in (" flat 999", "flats", "flat", "flat x", "flat 999", "format 0", "format 0 8 8 0 1 1 0 0 x", "damage 0 999"):
            self.refused(fresh, line)
        desk = self.desk(SMALL)
        for line in ("search 1000001", "damage 0 256", "damage 7 256", "intra 1000 32", "encode x", "search"):
            self.refused(desk, line)
            self.assertEqual(desk.run("units"), "none")

    def test_a_slice_that_is_too_long(self):
        desk = self.desk("format 120 120 12 2 1 32 0 0 1", "flat 0", "flat 9", "intra 1 0", "encode")
        units = desk.run("units")
        # Of samples that change so much, too much is left at level 0.
        desk.run("intra 2 0")
        desk.run("ramp 1234567 7654321 0")
        for line in ("encode", "search 0"):
            self.refused(desk, line, OutOfRange)
            self.assertEqual(desk.run("units"), units)
            self.assertEqual(desk.run("decode"), "1 1 0")


if __name__ == "__main__":
    unittest.main()
