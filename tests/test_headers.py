"""Points 18 to 22: settings, headers and payloads."""

import itertools
import random
import unittest

from tests.plain_bits import octets_of, se_of, ue_of
from thaumatrope.bits import BitWriter
from thaumatrope.errors import BadHeader, CodecError, OutOfRange
from thaumatrope.frames import Format
from thaumatrope.headers import (
    PictureHeader, Settings, SliceHeader, read_picture, read_settings, read_slice, slice_level,
    write_picture, write_settings, write_slice,
)

FMT = Format(40, 30, depth=10, chroma=1)
FULL = Settings(FMT, slots=4, rows=2, deblock=True, offset=True, layers=4)
PLAIN = Settings(Format(8, 8))


def bits_of(octets):
    return "".join([f"{octet:08b}" for octet in octets]).rstrip("0")[:-1]


def settings_bits(settings, version=1):
    fmt = settings.fmt
    bits = f"{version:08b}" + ue_of(fmt.width - 1) + ue_of(fmt.height - 1) + ue_of(fmt.depth - 8) + ue_of(fmt.chroma)
    bits += ue_of(settings.slots - 1) + ue_of(settings.rows - 1)
    return bits + str(int(settings.deblock)) + str(int(settings.offset)) + ue_of(settings.layers - 1)


def picture_bits(settings, header):
    bits = ue_of(header.number) + ue_of("IPB".index(header.kind)) + ue_of(header.level)
    bits += "".join(["1" if slot in header.store else "0" for slot in range(settings.slots)])
    if header.kind == "P":
        bits += "1" if len(header.refs) == 2 else "0"
    bits += "".join([f"{slot:02b}" for slot in header.refs])
    if header.kind == "B":
        bits += ue_of(header.weight)
    bits += ue_of(header.layer) + ("1" if header.shown else "0")
    return bits + (se_of(header.edge) if settings.deblock else "")


ALL_SETTINGS = [
    PLAIN, FULL,
    Settings(Format(1, 256, depth=12, chroma=2), slots=2, rows=32, deblock=True),
    Settings(Format(256, 1, depth=9), slots=3, rows=7, offset=True, layers=2),
    Settings(Format(255, 129, chroma=1), layers=3),
]


def pictures_of(settings):
    """Valid headers with each number at both ends of its range."""
    last = settings.slots - 1
    every = list(range(settings.slots))
    edge = 6 if settings.deblock else 0
    return [
        PictureHeader(settings, number=0),
        PictureHeader(settings, number=999, level=31, store=every, layer=settings.layers - 1, shown=False, edge=edge),
        PictureHeader(settings, number=1, kind="P", refs=[0], store=[last], edge=-edge),
        PictureHeader(settings, number=62, kind="P", refs=[last], level=1),
        PictureHeader(settings, number=63, kind="P", refs=[last, 0], level=7),
        PictureHeader(settings, number=64, kind="P", refs=[0, 0]),
        PictureHeader(settings, number=500, kind="B", refs=[last, last], weight=0),
        PictureHeader(settings, number=501, kind="B", refs=[0, last], weight=16, store=[0], edge=edge),
        PictureHeader(settings, number=502, kind="B", refs=[last, 0], shown=False, layer=settings.layers - 1),
    ]


class SettingsOfSequences(unittest.TestCase):
    def test_defaults_and_attributes(self):
        found = (PLAIN.fmt, PLAIN.slots, PLAIN.rows, PLAIN.deblock, PLAIN.offset, PLAIN.layers)
        self.assertEqual(found, (Format(8, 8), 1, 1, False, False, 1))
        found = (FULL.fmt, FULL.slots, FULL.rows, FULL.deblock, FULL.offset, FULL.layers)
        self.assertEqual(found, (FMT, 4, 2, True, True, 4))

    def test_numbers_at_both_ends_and_beyond(self):
        for name, least, greatest in (("slots", 1, 4), ("rows", 1, 32), ("layers", 1, 4)):
            for number in (least, greatest):
                self.assertEqual(getattr(Settings(FMT, **{name: number}), name), number)
            for number in (least - 1, greatest + 1, -1, 100):
                with self.assertRaises(BadHeader):
                    Settings(FMT, **{name: number})

    def test_equality(self):
        same = Settings(Format(40, 30, depth=10, chroma=1), slots=4, rows=2, deblock=True, offset=True, layers=4)
        self.assertTrue(FULL == same)
        self.assertFalse(FULL != same)
        values = {"slots": 4, "rows": 2, "deblock": True, "offset": True, "layers": 4}
        others = [Settings(Format(40, 30, depth=10, chroma=2), **values), PLAIN, None, "settings", FMT]
        for name, other in (("slots", 3), ("rows", 3), ("deblock", False), ("offset", False), ("layers", 1)):
            others.append(Settings(FMT, **{**values, name: other}))
        for other in others:
            self.assertFalse(FULL == other)
            self.assertTrue(FULL != other)

    def test_slices(self):
        # (height, rows of blocks in a slice): the slices.
        cases = {
            (8, 1): [(0, 1)], (8, 32): [(0, 1)], (9, 1): [(0, 1), (1, 1)], (9, 2): [(0, 2)],
            (24, 2): [(0, 2), (2, 1)], (32, 2): [(0, 2), (2, 2)], (40, 3): [(0, 3), (3, 2)],
            (256, 32): [(0, 32)], (256, 31): [(0, 31), (31, 1)], (255, 16): [(0, 16), (16, 16)],
            (256, 1): [(row, 1) for row in range(32)],
        }
        for (height, rows), expected in cases.items():
            for chroma in (0, 1, 2):
                settings = Settings(Format(200, height, chroma=chroma), rows=rows)
                self.assertEqual(settings.slices(), len(expected))
                self.assertEqual([settings.slice_rows(index) for index in range(len(expected))], expected)
                for index in (-1, len(expected), len(expected) + 1, 1000):
                    with self.assertRaises(OutOfRange):
                        settings.slice_rows(index)


class PictureHeaders(unittest.TestCase):
    def refuse(self, settings, **more):
        with self.assertRaises(BadHeader, msg=more):
            PictureHeader(settings, **more)

    def test_defaults(self):
        header = PictureHeader(PLAIN, number=3)
        found = (header.number, header.kind, header.level, header.store, header.refs, header.weight,
                 header.layer, header.shown, header.edge)
        self.assertEqual(found, (3, "I", 0, [], [], 8, 0, True, 0))

    def test_attributes(self):
        header = PictureHeader(FULL, number=3, kind="B", level=4, store=[1, 3], refs=[2, 0], weight=5,
                               layer=2, shown=False, edge=-3)
        found = (header.number, header.kind, header.level, header.store, header.refs, header.weight,
                 header.layer, header.shown, header.edge)
        self.assertEqual(found, (3, "B", 4, [1, 3], [2, 0], 5, 2, False, -3))

    def test_numbers_at_both_ends_and_beyond(self):
        ranges = {
            "number": (0, 999, {}), "level": (0, 31, {"number": 0}), "layer": (0, 3, {"number": 0}),
            "edge": (-6, 6, {"number": 0}), "weight": (0, 16, {"number": 0, "kind": "B", "refs": [0, 0]}),
        }
        for name, (least, greatest, more) in ranges.items():
            for number in (least, greatest):
                self.assertEqual(getattr(PictureHeader(FULL, **more, **{name: number}), name), number)
            for number in (least - 1, greatest + 1, -1000, 1000):
                self.refuse(FULL, **more, **{name: number})

    def test_layers_of_the_settings(self):
        for layers in (1, 2, 3, 4):
            settings = Settings(FMT, layers=layers)
            self.assertEqual(PictureHeader(settings, number=0, layer=layers - 1).layer, layers - 1)
            self.refuse(settings, number=0, layer=layers)

    def test_kinds(self):
        for kind in ("", "X", "i", "p", "b", "IP", "PB", "I ", "IPB", "0"):
            self.refuse(FULL, number=0, kind=kind)
            self.refuse(FULL, number=0, kind=kind, refs=[0])
            self.refuse(FULL, number=0, kind=kind, refs=[0, 0])

    def test_numbers_of_refs(self):
        allowed = {"I": [0], "P": [1, 2], "B": [2]}
        for kind, counts in allowed.items():
            for count in range(4):
                refs = [1] * count
                if count in counts:
                    self.assertEqual(PictureHeader(FULL, number=0, kind=kind, refs=refs).refs, refs)
                else:
                    self.refuse(FULL, number=0, kind=kind, refs=refs)

    def test_refs_in_any_order(self):
        for kind in ("P", "B"):
            for refs in itertools.product(range(4), repeat=2):
                self.assertEqual(PictureHeader(FULL, number=0, kind=kind, refs=refs).refs, list(refs))

    def test_slots_out_of_range(self):
        for slots in (1, 2, 3, 4):
            settings = Settings(FMT, slots=slots)
            for wrong in (-1, slots, 9):
                self.refuse(settings, number=0, store=[wrong])
                self.refuse(settings, number=0, store=[0, wrong])
                self.refuse(settings, number=0, kind="P", refs=[wrong])
                for kind in ("P", "B"):
                    self.refuse(settings, number=0, kind=kind, refs=[0, wrong])
                    self.refuse(settings, number=0, kind=kind, refs=[wrong, 0])

    def test_store_ascends_without_duplicates(self):
        for count in range(5):
            for store in itertools.product(range(4), repeat=count):
                if list(store) == sorted(set(store)):
                    self.assertEqual(PictureHeader(FULL, number=0, store=store).store, list(store))
                else:
                    self.refuse(FULL, number=0, store=list(store))

    def test_weight_of_other_kinds(self):
        for kind, refs in (("I", []), ("P", [0]), ("P", [0, 1])):
            self.assertEqual(PictureHeader(FULL, number=0, kind=kind, refs=refs, weight=8).weight, 8)
            for weight in (0, 7, 9, 16):
                self.refuse(FULL, number=0, kind=kind, refs=refs, weight=weight)

    def test_edge_without_deblock(self):
        settings = Settings(FMT, offset=True)
        self.assertEqual(PictureHeader(settings, number=0, edge=0).edge, 0)
        for edge in (-6, -1, 1, 6):
            self.refuse(settings, number=0, edge=edge)

    def test_store_and_refs_are_copied(self):
        for made in (list, tuple):
            header = PictureHeader(FULL, number=0, kind="P", store=made([0, 2]), refs=made([3, 1]))
            self.assertEqual((header.store, header.refs), ([0, 2], [3, 1]))
            self.assertIsInstance(header.store, list)
            self.assertIsInstance(header.refs, list)
        store, refs = [0, 2], [3, 1]
        header = PictureHeader(FULL, number=0, kind="P", store=store, refs=refs)
        store.append(3)
        refs[0] = 9
        self.assertEqual((header.store, header.refs), ([0, 2], [3, 1]))
        store = [0, 1]
        header = PictureHeader(FULL, number=0, kind="P", store=store, refs=store)
        self.assertIsNot(header.store, header.refs)
        first, second = PictureHeader(FULL, number=0), PictureHeader(FULL, number=1)
        self.assertIsNot(first.store, second.store)

    def test_equality(self):
        values = {"number": 3, "kind": "B", "level": 4, "store": [1, 3], "refs": [2, 0], "weight": 5,
                  "layer": 2, "shown": False, "edge": -3}
        header = PictureHeader(FULL, **values)
        same = PictureHeader(FULL, **{**values, "store": (1, 3), "refs": (2, 0)})
        self.assertTrue(header == same)
        self.assertFalse(header != same)
        others = [None, 3, SliceHeader(FULL, number=3, index=0)]
        changes = {"number": 4, "level": 5, "store": [1], "refs": [0, 2], "weight": 6, "layer": 1,
                   "shown": True, "edge": 3}
        for name, other in changes.items():
            others.append(PictureHeader(FULL, **{**values, name: other}))
        for other in others:
            self.assertFalse(header == other)
            self.assertTrue(header != other)
        values = {"number": 3, "refs": [2, 0]}
        self.assertNotEqual(PictureHeader(FULL, kind="P", **values), PictureHeader(FULL, kind="B", **values))


class SliceHeaders(unittest.TestCase):
    def test_defaults_and_attributes(self):
        header = SliceHeader(FULL, number=7, index=1)
        self.assertEqual((header.number, header.index, header.delta), (7, 1, 0))
        header = SliceHeader(FULL, number=0, index=0, delta=-4)
        self.assertEqual((header.number, header.index, header.delta), (0, 0, -4))

    def test_numbers_at_both_ends_and_beyond(self):
        for name, least, greatest in (("number", 0, 999), ("index", 0, 1), ("delta", -31, 31)):
            values = {"number": 0, "index": 0}
            for number in (least, greatest):
                self.assertEqual(getattr(SliceHeader(FULL, **{**values, name: number}), name), number)
            for number in (least - 1, greatest + 1, -1000, 1000):
                with self.assertRaises(BadHeader):
                    SliceHeader(FULL, **{**values, name: number})

    def test_index_depends_on_the_settings(self):
        settings = Settings(Format(8, 256))
        self.assertEqual(SliceHeader(settings, number=0, index=31).index, 31)
        with self.assertRaises(BadHeader):
            SliceHeader(settings, number=0, index=32)
        with self.assertRaises(BadHeader):
            SliceHeader(PLAIN, number=0, index=1)

    def test_equality(self):
        header = SliceHeader(FULL, number=7, index=1, delta=2)
        self.assertTrue(header == SliceHeader(FULL, number=7, index=1, delta=2))
        self.assertFalse(header != SliceHeader(FULL, number=7, index=1, delta=2))
        others = [
            SliceHeader(FULL, number=8, index=1, delta=2), SliceHeader(FULL, number=7, index=0, delta=2),
            SliceHeader(FULL, number=7, index=1, delta=-2), PictureHeader(FULL, number=7), None,
        ]
        for other in others:
            self.assertFalse(header == other)
            self.assertTrue(header != other)

    def test_level_of_a_slice(self):
        cases = {
            (0, 0): 0, (10, 0): 10, (10, 5): 15, (10, -5): 5, (10, 21): 31, (10, 22): 31, (10, 31): 31,
            (10, -10): 0, (10, -11): 0, (10, -31): 0, (31, 31): 31, (0, -31): 0, (31, -31): 0, (0, 31): 31,
        }
        for (level, delta), expected in cases.items():
            picture = PictureHeader(PLAIN, number=0, level=level)
            self.assertEqual(slice_level(picture, SliceHeader(PLAIN, number=0, index=0, delta=delta)), expected)


def faults_of(payload):
    """Payloads that differ from a payload: cut, one bit turned, one octet changed, put in or left out, more behind."""
    for length in range(len(payload)):
        yield payload[:length]
    for place in range(len(payload)):
        for bit in range(8):
            yield payload[:place] + [payload[place] ^ (1 << bit)] + payload[place + 1:]
        yield payload[:place] + payload[place + 1:]
        for octet in (0, 1, 128, 255):
            yield payload[:place] + [octet] + payload[place + 1:]
            yield payload[:place] + [octet] + payload[place:]
    for behind in ([0], [1], [128], [255], [0, 0], [128, 128]):
        yield payload + behind
    bits = bits_of(payload)
    for more in ("0", "1", "00", "1" * 9):
        yield octets_of(bits + more)


class Payloads(unittest.TestCase):
    def test_settings(self):
        for settings in ALL_SETTINGS:
            payload = write_settings(settings)
            self.assertEqual(payload, octets_of(settings_bits(settings)))
            before = list(payload)
            self.assertEqual(read_settings(payload), settings)
            self.assertEqual(payload, before)

    def test_settings_by_hand(self):
        # Version; 8 - 1 twice; six zeros; the switches; 0; the last bit.
        bits = "00000001" + "0001000" + "0001000" + "1" + "1" + "1" + "1" + "0" + "0" + "1" + "1" + "000"
        self.assertEqual(write_settings(PLAIN), [int(bits[place:place + 8], 2) for place in (0, 8, 16, 24)])

    def test_every_attribute_of_settings(self):
        for slots, rows, layers in itertools.product((1, 2, 3, 4), (1, 2, 31, 32), (1, 2, 3, 4)):
            for deblock, offset in itertools.product((True, False), repeat=2):
                settings = Settings(FMT, slots=slots, rows=rows, deblock=deblock, offset=offset, layers=layers)
                made = read_settings(write_settings(settings))
                self.assertEqual(made, settings)
                self.assertIs(made.deblock, deblock)
                self.assertIs(made.offset, offset)

    def test_pictures(self):
        for settings in ALL_SETTINGS:
            for header in pictures_of(settings):
                payload = write_picture(settings, header)
                self.assertEqual(payload, octets_of(picture_bits(settings, header)))
                before = list(payload)
                made = read_picture(settings, payload)
                self.assertEqual(made, header)
                self.assertIs(made.shown, header.shown)
                self.assertEqual(payload, before)

    def test_every_edge_weight_store_and_refs(self):
        for edge in range(-6, 7):
            header = PictureHeader(FULL, number=9, edge=edge)
            self.assertEqual(read_picture(FULL, write_picture(FULL, header)), header)
        for weight in range(17):
            header = PictureHeader(FULL, number=9, kind="B", refs=[3, 2], weight=weight)
            self.assertEqual(read_picture(FULL, write_picture(FULL, header)), header)
        for count in range(5):
            for store in itertools.combinations(range(4), count):
                header = PictureHeader(FULL, number=9, store=store)
                self.assertEqual(read_picture(FULL, write_picture(FULL, header)), header)
        for kind in ("P", "B"):
            for refs in itertools.product(range(4), repeat=2):
                header = PictureHeader(FULL, number=9, kind=kind, refs=refs)
                self.assertEqual(read_picture(FULL, write_picture(FULL, header)), header)

    def test_slices(self):
        settings = Settings(Format(8, 256))
        for number in (0, 1, 62, 63, 999):
            for index in (0, 1, 30, 31):
                for delta in (-31, -1, 0, 1, 31):
                    for code in ([], [0], [128, 0], [0, 0, 0], [255] * 300):
                        header = SliceHeader(settings, number=number, index=index, delta=delta)
                        head = octets_of(ue_of(number) + ue_of(index) + se_of(delta))
                        payload = write_slice(settings, header, code)
                        self.assertEqual(payload, [len(head)] + head + code)
                        before = list(payload)
                        self.assertEqual(read_slice(settings, payload), (header, code))
                        self.assertEqual(payload, before)

    def test_slices_by_hand(self):
        header = SliceHeader(PLAIN, number=0, index=0, delta=0)
        self.assertEqual(write_slice(PLAIN, header, [5, 0]), [1, 0b11110000, 5, 0])
        self.assertEqual(read_slice(PLAIN, [1, 0b11110000]), (header, []))

    def test_codes_are_new_lists(self):
        header = SliceHeader(PLAIN, number=0, index=0)
        code = [1, 2]
        payload = write_slice(PLAIN, header, code)
        payload[-1] = 9
        self.assertEqual(code, [1, 2])
        payload = [1, 0b11110000, 7]
        _, code = read_slice(PLAIN, payload)
        code.append(3)
        self.assertEqual(payload, [1, 0b11110000, 7])


class Refusals(unittest.TestCase):
    def refuse_settings(self, bits):
        with self.assertRaises(BadHeader, msg=bits):
            read_settings(octets_of(bits))

    def refuse_picture(self, settings, bits):
        with self.assertRaises(BadHeader, msg=bits):
            read_picture(settings, octets_of(bits))

    def test_empty_payloads_and_octets_that_no_writer_gives(self):
        for payload in ([], [0], [1, 0], [0, 0, 0]):
            with self.assertRaises(BadHeader):
                read_settings(payload)
            with self.assertRaises(BadHeader):
                read_picture(FULL, payload)
            with self.assertRaises(BadHeader):
                read_slice(FULL, payload)

    def test_bits_left_over(self):
        for more in ("0", "1", "00000000", "1" * 20):
            for settings in ALL_SETTINGS:
                self.refuse_settings(settings_bits(settings) + more)
                for header in pictures_of(settings):
                    self.refuse_picture(settings, picture_bits(settings, header) + more)

    def test_bits_that_are_missing(self):
        for settings in ALL_SETTINGS:
            bits = settings_bits(settings)
            for length in range(len(bits)):
                self.refuse_settings(bits[:length])
            for header in pictures_of(settings):
                bits = picture_bits(settings, header)
                self.refuse_picture(settings, bits[:-1])
                self.refuse_picture(settings, bits[:5])

    def test_unknown_versions(self):
        for version in (0, 2, 3, 129, 255):
            self.refuse_settings(settings_bits(FULL, version=version))

    def test_codes_that_do_not_end(self):
        for zeros in (20, 33, 34, 64, 200):
            self.refuse_settings("00000001" + "0" * zeros)
            self.refuse_settings("00000001" + "0" * zeros + "1")
            self.refuse_picture(FULL, "0" * zeros)
            self.refuse_picture(FULL, "0" * zeros + "1")
            self.refuse_picture(FULL, ue_of(0) + ue_of(0) + ue_of(0) + "0000" + ue_of(0) + "1" + "0" * zeros)
            with self.assertRaises(BadHeader):
                head = octets_of("0" * zeros + "1")
                read_slice(FULL, [len(head)] + head)

    def test_settings_out_of_range(self):
        fields = [ue_of(7), ue_of(7), ue_of(0), ue_of(0), ue_of(0), ue_of(0), "0", "0", ue_of(0)]
        read_settings(octets_of("00000001" + "".join(fields)))
        greatest = {0: 255, 1: 255, 2: 4, 3: 2, 4: 3, 5: 31, 8: 3}
        for place, most in greatest.items():
            right = fields[:place] + [ue_of(most)] + fields[place + 1:]
            read_settings(octets_of("00000001" + "".join(right)))
            for value in (most + 1, 1000, 2 ** 32, 2 ** 33 - 2):
                wrong = fields[:place] + [ue_of(value)] + fields[place + 1:]
                self.refuse_settings("00000001" + "".join(wrong))

    def test_pictures_out_of_range(self):
        one = [ue_of(5), ue_of(0), ue_of(6), "0010", ue_of(1), "1", se_of(2)]
        both = [ue_of(5), ue_of(2), ue_of(6), "0010", "0111", ue_of(9), ue_of(1), "1", se_of(2)]
        greatest = [(one, 0, 999), (one, 2, 31), (one, 4, 3), (both, 5, 16), (both, 6, 3)]
        for fields, place, most in greatest:
            right = fields[:place] + [ue_of(most)] + fields[place + 1:]
            read_picture(FULL, octets_of("".join(right)))
            for value in (most + 1, 2000, 2 ** 32, 2 ** 33 - 2):
                self.refuse_picture(FULL, "".join(fields[:place] + [ue_of(value)] + fields[place + 1:]))
        for edge in (-7, 7, 100, -2 ** 31, 2 ** 32 - 1):
            self.refuse_picture(FULL, "".join(one[:6] + [se_of(edge)]))
        for kind in (3, 4, 100):
            self.refuse_picture(FULL, "".join(one[:1] + [ue_of(kind)] + one[2:]))
            self.refuse_picture(FULL, "".join(both[:1] + [ue_of(kind)] + both[2:]))

    def test_slots_of_refs_out_of_range(self):
        for slots in (1, 2, 3):
            settings = Settings(FMT, slots=slots)
            for slot in range(4):
                bits = [ue_of(0) + ue_of(1) + ue_of(0) + "0" * slots + "0" + f"{slot:02b}" + ue_of(0) + "1"]
                bits += [ue_of(0) + ue_of(1) + ue_of(0) + "0" * slots + "1" + f"00{slot:02b}" + ue_of(0) + "1"]
                bits += [ue_of(0) + ue_of(2) + ue_of(0) + "0" * slots + f"{slot:02b}00" + ue_of(8) + ue_of(0) + "1"]
                for text in bits:
                    if slot < slots:
                        read_picture(settings, octets_of(text))
                    else:
                        self.refuse_picture(settings, text)

    def test_slices_out_of_range(self):
        wrong = [(1000, 0, 0), (0, 2, 0), (0, 0, 32), (0, 0, -32), (2 ** 32, 0, 0), (0, 2 ** 32, 0)]
        for number, index, delta in wrong:
            head = octets_of(ue_of(number) + ue_of(index) + se_of(delta))
            with self.assertRaises(BadHeader):
                read_slice(FULL, [len(head)] + head + [7])

    def test_first_octets_that_do_not_fit(self):
        header = SliceHeader(FULL, number=300, index=1, delta=-7)
        payload = write_slice(FULL, header, [])
        for first in range(256):
            if first == payload[0]:
                self.assertEqual(read_slice(FULL, [first] + payload[1:]), (header, []))
            else:
                with self.assertRaises(BadHeader, msg=first):
                    read_slice(FULL, [first] + payload[1:])
        with self.assertRaises(BadHeader):
            read_slice(FULL, [0])
        with self.assertRaises(BadHeader):
            read_slice(FULL, [0, 128])

    def test_slice_headers_with_bits_left_over_or_missing(self):
        bits = ue_of(300) + ue_of(1) + se_of(-7)
        for more in ("0", "1", "0" * 8, "1" * 30):
            head = octets_of(bits + more)
            with self.assertRaises(BadHeader):
                read_slice(FULL, [len(head)] + head + [7])
        for length in range(len(bits)):
            head = octets_of(bits[:length])
            with self.assertRaises(BadHeader):
                read_slice(FULL, [len(head)] + head + [7])
        for head in ([], [0], octets_of(bits) + [0]):
            with self.assertRaises(BadHeader):
                read_slice(FULL, [len(head)] + head)

    def test_what_is_read_is_what_was_written(self):
        for settings in ALL_SETTINGS:
            for payload in faults_of(write_settings(settings)):
                self.check(payload, read_settings, write_settings)
            for header in pictures_of(settings):
                for payload in faults_of(write_picture(settings, header)):
                    self.check(payload, lambda octets: read_picture(settings, octets),
                               lambda made: write_picture(settings, made))
            header = SliceHeader(settings, number=300, index=settings.slices() - 1, delta=-7)
            for payload in faults_of(write_slice(settings, header, [])):
                self.check(payload, lambda octets: read_slice(settings, octets),
                           lambda made: write_slice(settings, *made))

    def check(self, payload, read, write):
        """A payload is refused, or writing what was read gives the payload again."""
        before = list(payload)
        try:
            made = read(payload)
        except CodecError as error:
            self.assertIs(error.__class__, BadHeader)
        else:
            self.assertEqual(write(made), before)
        self.assertEqual(payload, before)

    def test_any_octets(self):
        chance = random.Random(31)
        for _ in range(2000):
            payload = [chance.choice((0, 1, 2, 128, chance.randrange(256))) for _ in range(chance.randrange(8))]
            self.check(payload, read_settings, write_settings)
            self.check([1] + payload, read_settings, write_settings)
            for settings in (PLAIN, FULL):
                self.check(payload, lambda octets: read_picture(settings, octets),
                           lambda made: write_picture(settings, made))
                self.check(payload, lambda octets: read_slice(settings, octets),
                           lambda made: write_slice(settings, *made))

    def test_payloads_of_a_bit_writer(self):
        writer = BitWriter()
        writer.put(1, 8)
        for number in (15, 7, 0, 1, 0, 0):
            writer.put_ue(number)
        writer.put(0, 2)
        writer.put_ue(0)
        self.assertEqual(read_settings(writer.octets()), Settings(Format(16, 8, chroma=1)))


if __name__ == "__main__":
    unittest.main()
