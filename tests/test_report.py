"""Point 71: reports."""

import itertools
import random
import unittest

from tests.plain_stream import plain_stream, random_pictures, read_or_none
from thaumatrope.frames import Format
from thaumatrope.headers import (
    PictureHeader, Settings, SliceHeader, read_picture, read_settings, read_slice, write_picture, write_settings,
    write_slice,
)
from thaumatrope.report import report_stream
from thaumatrope.units import read_units, write_unit, write_units

WIDE = Settings(Format(200, 16), slots=2, rows=1, layers=2)
TALL = Settings(Format(3, 256, chroma=2), slots=4, rows=1, deblock=True)


def sequence(settings):
    return 1, write_settings(settings)


def picture(settings, number, kind="I", **more):
    return 2, write_picture(settings, PictureHeader(settings, number=number, kind=kind, **more))


def piece(settings, number, index, code=()):
    return 3, write_slice(settings, SliceHeader(settings, number=number, index=index), list(code))


def plain_report(octets):
    """The rows of a report in the words of point 71."""
    rows = []
    settings = None
    units = list(read_units(octets))
    for place, (start, kind, payload) in enumerate(units):
        end = units[place + 1][0] if place + 1 < len(units) else len(octets)
        note = {0: "bad", 4: "end", 5: "note"}.get(kind, "ignored")
        if kind == 1:
            settings = read_or_none(read_settings, payload)
            if settings:
                note = f"sequence {settings.fmt.width}x{settings.fmt.height}"
        elif kind == 4:
            settings = None
        elif kind in (2, 3) and settings:
            header = read_or_none(read_picture if kind == 2 else read_slice, settings, payload)
            if header and kind == 2:
                note = f"picture {header.kind} {header.number}"
            elif header:
                note = f"slice {header[0].number} {header[0].index}"
        rows.append((start, kind, len(octets[start + 3:end]), note))
    return rows


class Reports(unittest.TestCase):
    def check(self, octets, expected=None):
        before = list(octets)
        found = report_stream(octets)
        self.assertEqual(octets, before)
        self.assertEqual(found, plain_report(octets) if expected is None else expected)
        return found

    def notes(self, units):
        octets = write_units(units)
        found = self.check(octets, plain_report(octets))
        self.assertEqual([row[1] for row in found], [kind for kind, _ in units])
        return [row[3] for row in found]

    def test_by_hand(self):
        self.check([0, 0, 1, 4, 128], [(0, 4, 2, "end")])
        self.check([7, 0, 0, 1, 4, 128, 0, 0, 0, 1, 5, 1, 2, 128], [(1, 4, 3, "end"), (7, 5, 4, "note")])
        octets = write_units([sequence(WIDE), picture(WIDE, 12), piece(WIDE, 12, 1, [5, 6]), (4, [])])
        length = len(write_unit(*sequence(WIDE)))
        # 0001101 1 1, the slots 0 0, 1 1, and the stop, are 2 octets; 1 + 2 octets and the code are 5.
        self.check(octets, [
            (0, 1, length - 3, "sequence 200x16"), (length, 2, 4, "picture I 12"), (length + 7, 3, 7, "slice 12 1"),
            (length + 17, 4, 2, "end"),
        ])

    def test_no_units(self):
        for octets in ([], [0], [0, 0], [1, 2, 3], [0, 0, 2]):
            self.check(octets, [])

    def test_each_kind(self):
        for kind in range(6, 32):
            for payload in ([], [1, 2], sequence(WIDE)[1], picture(WIDE, 3)[1], piece(WIDE, 3, 1)[1]):
                self.assertEqual(self.notes([(kind, payload), sequence(WIDE), (kind, payload)]),
                                 ["ignored", "sequence 200x16", "ignored"])
        for payload in ([], [1, 2], sequence(WIDE)[1]):
            self.assertEqual(self.notes([(4, payload), (5, payload)]), ["end", "note"])
            self.assertEqual(self.notes([sequence(TALL), (5, payload), (4, payload)]), ["sequence 3x256", "note", "end"])

    def test_sequences(self):
        for settings, text in ((WIDE, "200x16"), (TALL, "3x256"), (Settings(Format(1, 1)), "1x1")):
            self.assertEqual(self.notes([sequence(settings)]), ["sequence " + text])
            for payload in ([], [0], sequence(settings)[1] + [128], [9] + sequence(settings)[1][1:]):
                self.assertEqual(self.notes([(1, payload)]), ["ignored"])

    def test_pictures(self):
        units = [sequence(WIDE), picture(WIDE, 0), picture(WIDE, 999, "P", refs=[1]), picture(WIDE, 7, "B", refs=[0, 1])]
        self.assertEqual(self.notes(units)[1:], ["picture I 0", "picture P 999", "picture B 7"])
        for payload in ([], [0], units[1][1] + [128]):
            self.assertEqual(self.notes([units[0], (2, payload)])[1:], ["ignored"])
        # The layer 1 and the slot 1 are not valid for other settings.
        small = Settings(Format(200, 16))
        for more in ({"layer": 1}, {"store": [1]}, {"kind": "P", "refs": [1]}):
            unit = picture(WIDE, 5, **more)
            self.assertEqual(self.notes([sequence(small), unit, sequence(WIDE), unit])[1::2],
                             ["ignored", "picture " + more.get("kind", "I") + " 5"])

    def test_slices(self):
        for number, index in itertools.product((0, 5, 999), (0, 1)):
            unit = piece(WIDE, number, index, [1, 2])
            text = f"slice {number} {index}"
            # It does not matter whether there is a current picture, which one, and which slices it has.
            for before in ([], [picture(WIDE, number)], [picture(WIDE, 77)], [picture(WIDE, number), unit], [(2, [])]):
                self.assertEqual(self.notes([sequence(WIDE)] + before + [unit])[-1], text)
        for payload in ([], [0], [1], [9, 1], piece(TALL, 5, 2)[1]):
            self.assertEqual(self.notes([sequence(WIDE), picture(WIDE, 5), (3, payload)])[-1], "ignored")
        self.assertEqual(self.notes([sequence(TALL), piece(TALL, 5, 31)])[-1], "slice 5 31")

    def test_without_settings(self):
        for before in ([], [(4, [])], [(1, [])], [sequence(WIDE), (4, [])], [sequence(WIDE), (1, [2])],
                       [sequence(WIDE), (4, [7, 7])]):
            units = before + [picture(WIDE, 5), piece(WIDE, 5, 0)]
            self.assertEqual(self.notes(units)[-2:], ["ignored", "ignored"])
            units += [sequence(WIDE), picture(WIDE, 5), piece(WIDE, 5, 0)]
            self.assertEqual(self.notes(units)[-2:], ["picture I 5", "slice 5 0"])

    def test_bad_units(self):
        for raw in ([], [0], [32, 128], [255, 1, 128], [1], [2, 0], [4, 127], [5, 128, 1], [0, 128]):
            octets = write_unit(*sequence(WIDE)) + [0, 0, 1] + raw
            self.assertEqual(self.check(octets)[1], (len(octets) - 3 - len(raw), 0, len(raw), "bad"))
            self.check([0, 0, 1] + raw, [(0, 0, len(raw), "bad")])

    def test_escaped_payloads(self):
        for payload in ([0, 0, 1], [0, 0, 0], [0, 0, 3, 0, 0, 2]):
            octets = write_unit(5, payload)
            self.assertEqual(self.check(octets)[0], (0, 5, len(octets) - 3, "note"))
            self.assertGreater(len(octets) - 3, len(payload) + 2)
        code = [0, 0, 0, 0, 0, 1]
        octets = write_units([sequence(WIDE), piece(WIDE, 3, 1, code)])
        plain = write_units([sequence(WIDE), piece(WIDE, 3, 1, [9] * 6)])
        self.assertEqual(self.check(octets)[1][2:], (self.check(plain)[1][2] + 2, "slice 3 1"))

    def test_zeros_behind_a_unit_belong_to_it(self):
        self.check([0, 0, 1, 4, 128, 0, 0, 0, 0, 1, 4, 128, 0], [(0, 4, 4, "end"), (7, 4, 3, "end")])

    def test_any_octets(self):
        chance = random.Random(140)
        parts = [write_unit(*unit) for unit in (
            sequence(WIDE), sequence(TALL), picture(WIDE, 1), picture(TALL, 2, edge=3), piece(WIDE, 3, 0), piece(TALL, 4, 9),
            (4, []), (5, [1]), (1, []), (20, [1]),
        )]
        notes = set()
        for _ in range(500):
            octets = []
            for _ in range(chance.randrange(9)):
                octets += chance.choice(parts)
                octets += [chance.choice((0, 0, 1, 2, 128)) for _ in range(chance.choice((0, 0, 3)))]
            if octets and chance.randrange(2):
                octets[chance.randrange(len(octets))] = chance.randrange(256)
            notes |= {row[3].split()[0] for row in self.check(octets)}
        self.assertEqual(notes, {"sequence", "picture", "slice", "end", "note", "bad", "ignored"})

    def test_streams(self):
        chance = random.Random(141)
        for chroma in (0, 1, 2):
            settings = Settings(Format(12, 20, chroma=chroma), slots=2, rows=2, deblock=True, offset=True, layers=3)
            pictures = random_pictures(chance, settings, 3)
            rows = self.check(plain_stream(settings, pictures))
            notes = ["sequence 12x20"]
            for header, _ in pictures:
                notes += [f"picture {header.kind} {header.number}"] + [f"slice {header.number} {index}" for index in (0, 1)]
            self.assertEqual([row[3] for row in rows], notes + ["end"])


if __name__ == "__main__":
    unittest.main()
