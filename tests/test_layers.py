"""Points 67 and 68: layers, and dropping of them."""

import itertools
import random
import unittest

from tests.plain_stream import plain_stream, plain_units, random_pictures, random_slices, read_or_none
from thaumatrope.decoder import decode_stream
from thaumatrope.frames import Format
from thaumatrope.headers import PictureHeader, Settings, read_picture, read_settings, write_picture, write_settings
from thaumatrope.layers import drop_layers, is_layered
from thaumatrope.units import read_units, write_unit, write_units

FULL = Settings(Format(8, 8), slots=3, layers=4)
SEQUENCE = 1, write_settings(FULL)
END = 4, []


def picture(layer, number=0):
    """The unit of a picture in a layer."""
    return 2, write_picture(FULL, PictureHeader(FULL, number=number, layer=layer))


def plain_layered(headers):
    """Whether headers are layered, in the words of point 67."""
    contents = {}
    for header in headers:
        for slot in header.refs:
            if slot in contents and contents[slot] > header.layer:
                return False
        contents.update({slot: header.layer for slot in header.store})
    return True


def plain_dropped(octets, most):
    """The octets without the layers above a number, in the words of point 67."""
    units = list(read_units(octets))
    ends = [start for start, _, _ in units[1:]] + [len(octets)]
    settings, dropping, gone = None, False, set()
    for (start, kind, payload), end in zip(units, ends):
        if kind in (1, 2, 4):
            dropping = False
        if kind == 1:
            settings = read_or_none(read_settings, payload)
        if kind == 4:
            settings = None
        if kind == 2 and settings is not None:
            header = read_or_none(read_picture, settings, payload)
            dropping = header is not None and header.layer > most
        if dropping and kind in (2, 3):
            gone |= set(range(start, end))
    return [octet for place, octet in enumerate(octets) if place not in gone]


class Layered(unittest.TestCase):
    def header(self, layer, refs=(), store=(), kind=None):
        kind = kind or ("P" if refs else "I")
        return PictureHeader(FULL, number=0, kind=kind, refs=refs, store=store, layer=layer)

    def check(self, headers, expected):
        self.assertIs(is_layered(FULL, headers), expected)
        self.assertEqual(plain_layered(headers), expected)

    def test_no_headers(self):
        self.check([], True)

    def test_slots_that_contain_nothing(self):
        for layer in range(4):
            self.check([self.header(layer, [0])], True)
            self.check([self.header(layer, [2, 1], kind="B")], True)
            self.check([self.header(3, store=[0]), self.header(layer, [1, 2])], True)

    def test_each_pair_of_layers(self):
        for first, second in itertools.product(range(4), repeat=2):
            for slot in range(3):
                headers = [self.header(first, store=[slot]), self.header(second, [slot])]
                self.check(headers, first <= second)
                other = (slot + 1) % 3
                headers = [self.header(first, store=[slot]), self.header(second, [other])]
                self.check(headers, True)
                for refs in ([slot, other], [other, slot]):
                    for kind in "PB":
                        self.check([self.header(first, store=[slot]), self.header(second, refs, kind=kind)], first <= second)

    def test_slots_that_are_stored_again(self):
        self.check([self.header(3, store=[0]), self.header(1, store=[0]), self.header(2, [0])], True)
        self.check([self.header(1, store=[0]), self.header(3, store=[0]), self.header(2, [0])], False)
        self.check([self.header(1, store=[0, 1, 2]), self.header(3, store=[1]), self.header(2, [0, 2])], True)
        self.check([self.header(1, store=[0, 1, 2]), self.header(3, store=[1]), self.header(2, [0, 1])], False)

    def test_a_picture_does_not_refer_to_itself(self):
        # The slot contains the picture before when the refs are looked at.
        self.check([self.header(0, store=[0]), self.header(2, [0], [0]), self.header(2, [0], [0])], True)
        self.check([self.header(0, store=[0]), self.header(2, [0], [0]), self.header(1, [0], [0])], False)

    def test_pictures_that_are_not_shown(self):
        hidden = PictureHeader(FULL, number=0, store=[0], layer=2, shown=False)
        self.check([hidden, self.header(1, [0])], False)

    def test_random_headers(self):
        chance = random.Random(120)
        found = set()
        for _ in range(400):
            headers = []
            for _ in range(chance.randrange(2, 7)):
                refs = [chance.randrange(3) for _ in range(chance.randrange(3))]
                store = [slot for slot in range(3) if chance.randrange(2)]
                headers.append(self.header(chance.choice((0, 1, 1, 2, 3)), refs, store))
            self.check(headers, plain_layered(headers))
            found.add(plain_layered(headers))
        self.assertEqual(found, {True, False})


class Dropping(unittest.TestCase):
    def drop(self, octets, most):
        before = list(octets)
        found = drop_layers(octets, most)
        self.assertEqual(octets, before)
        self.assertEqual(found, plain_dropped(octets, most))
        if found:
            kept = list(found)
            found.append(9)
            self.assertEqual(octets, before)
            found.pop()
            self.assertEqual(found, kept)
        return found

    def check(self, units, most, places):
        """Only the units with these indexes are left."""
        octets = write_units(units)
        self.assertEqual(self.drop(octets, most), write_units([units[place] for place in places]))

    def test_each_number(self):
        units = [SEQUENCE]
        for layer in (0, 1, 2, 3, 1):
            units += [picture(layer), (3, [7]), (3, [8, layer])]
        units.append(END)
        layers = [-1] + [layer for layer in (0, 1, 2, 3, 1) for _ in range(3)] + [-1]
        for most in range(4):
            self.check(units, most, [place for place, layer in enumerate(layers) if layer <= most])

    def test_slices_of_any_payload_are_removed(self):
        units = [SEQUENCE, picture(2), (3, []), (3, [0, 0, 0]), (3, [255] * 20), picture(0), (3, []), END]
        self.check(units, 1, [0, 5, 6, 7])

    def test_slices_before_a_first_picture(self):
        units = [SEQUENCE, (3, [1]), (3, [2]), picture(3), (3, [1]), END]
        self.check(units, 2, [0, 1, 2, 5])
        self.check([(3, [1])] + units, 2, [0, 1, 2, 3, 6])

    def test_other_units_in_between(self):
        units = [SEQUENCE, (5, [1]), picture(2), (5, [2]), (3, [1]), (9, [3]), (3, [2]), (31, []), (5, []), picture(1), (3, [3])]
        self.check(units, 1, [0, 1, 3, 5, 7, 8, 9, 10])
        self.check(units, 0, [0, 1, 3, 5, 7, 8])
        self.check(units, 3, range(11))

    def test_bad_units_in_between(self):
        bad = [[0, 0, 1], [0, 0, 1, 0, 128], [0, 0, 1, 99, 5, 128], [0, 0, 1, 2], [0, 0, 1, 2, 5], [0, 0, 1, 4, 0, 0], [0, 0, 1, 1, 3]]
        head = write_units([SEQUENCE])
        for one, other in itertools.product(bad, repeat=2):
            octets = head + write_units([picture(2)]) + one + write_units([(3, [1])]) + other + write_units([(3, [2])])
            self.assertEqual(self.drop(octets, 1), head + one + other)

    def test_units_whose_payload_is_not_valid(self):
        for kind, payload in ((1, []), (1, [1, 2]), (2, []), (2, [255] * 9), (4, [1, 2, 3]), SEQUENCE, END):
            units = [SEQUENCE, picture(2), (3, [1]), (kind, payload), (3, [2]), (3, [3])]
            self.check(units, 1, [0, 3, 4, 5])

    def test_pictures_without_a_valid_header(self):
        valid = picture(3)[1]
        lower = Settings(FULL.fmt, slots=3, layers=2)
        for payload in ([], [0], valid + [128], valid[:-1], [255] * 5):
            units = [SEQUENCE, (2, payload), (3, [1]), picture(3), (3, [2]), (2, payload), (3, [3])]
            self.check(units, 0, [0, 1, 2, 5, 6])
        # There is no layer 3 in a sequence with two layers.
        units = [(1, write_settings(lower)), picture(3), (3, [1]), picture(1), (3, [2])]
        self.check(units, 0, [0, 1, 2])

    def test_without_settings(self):
        for before in ([], [END], [(1, [])], [SEQUENCE, END], [SEQUENCE, (1, [5])], [(5, [])]):
            units = before + [picture(3), (3, [1]), END]
            self.check(units, 0, range(len(units)))
            # There are settings again behind the next sequence unit.
            self.check(units + [SEQUENCE, picture(3), (3, [1])], 0, range(len(units) + 1))

    def test_other_settings_in_between(self):
        one = Settings(Format(8, 8), slots=4, layers=4, deblock=True)
        payload = write_picture(one, PictureHeader(one, number=1, store=[3], layer=2))
        self.assertIsNone(read_or_none(read_picture, FULL, payload))
        units = [SEQUENCE, (2, payload), (3, [1]), (1, write_settings(one)), (2, payload), (3, [1]), SEQUENCE, (2, payload), (3, [2])]
        self.check(units, 1, [0, 1, 2, 3, 6, 7, 8])
        self.check(units, 2, range(9))

    def test_several_segments(self):
        part = [SEQUENCE, picture(0), (3, [1]), picture(2), (3, [2]), END]
        self.check(part * 3, 1, [place for place in range(18) if place % 6 not in (3, 4)])
        part = part[:-1]
        self.check(part * 3, 1, [place for place in range(15) if place % 5 not in (3, 4)])

    def test_octets_ahead_of_the_first_start(self):
        units = write_units([SEQUENCE, picture(3), (3, [1])])
        for ahead in ([], [0], [0, 0], [1, 2, 3], [0, 1, 0, 0], [255] * 9):
            self.assertEqual(self.drop(ahead + units, 2), ahead + write_units([SEQUENCE]))
            self.assertEqual(self.drop(list(ahead), 2), ahead)

    def test_zeros_around_units(self):
        # Zeros in front of a start belong to the unit before it.
        octets = write_units([SEQUENCE]) + [0] * 3 + write_units([picture(3)]) + [0] * 5 + write_units([(3, [1])]) + [0, 0]
        self.assertEqual(self.drop(octets, 1), write_units([SEQUENCE]) + [0] * 3)
        octets += write_units([picture(1)]) + [0] * 4
        self.assertEqual(self.drop(octets, 1), write_units([SEQUENCE]) + [0] * 3 + write_units([picture(1)]) + [0] * 4)

    def test_any_octets(self):
        chance = random.Random(121)
        parts = [write_unit(*unit) for unit in (SEQUENCE, END, picture(0), picture(2), picture(3), (3, [5]), (5, []), (1, []))]
        changed = 0
        for _ in range(600):
            octets = []
            for _ in range(chance.randrange(9)):
                octets += chance.choice(parts)
                if chance.randrange(3) == 0:
                    octets += [chance.choice((0, 0, 1, 2, 128, 255)) for _ in range(chance.randrange(5))]
            if octets and chance.randrange(2):
                octets[chance.randrange(len(octets))] = chance.randrange(256)
            for most in range(4):
                changed += self.drop(octets, most) != octets
        self.assertGreater(changed, 100)
        for octets in ([], [0], [0, 0, 1], [0, 0, 1, 2], [1, 2, 3]):
            self.assertEqual(self.drop(octets, 0), octets)


class Decoding(unittest.TestCase):
    def headers_of(self, chance, settings, count):
        """Layered headers of each kind: the content of each slot has a layer."""
        contents = {}
        headers = []
        for number in chance.sample(range(1000), count):
            layer = chance.randrange(settings.layers)
            free = [slot for slot in range(settings.slots) if contents.get(slot, 0) <= layer]
            kind = chance.choice("IPB") if free else "I"
            count = {"I": 0, "P": chance.choice((1, 2)), "B": 2}[kind]
            refs = [chance.choice(free) for _ in range(count)]
            store = [slot for slot in range(settings.slots) if chance.randrange(2)]
            contents.update({slot: layer for slot in store})
            headers.append(PictureHeader(
                settings, number=number, kind=kind, level=chance.randrange(9), refs=refs, store=store,
                layer=layer, shown=chance.randrange(4) > 0, weight=5 if kind == "B" else 8,
            ))
        return headers

    def test_layered_sequences(self):
        chance = random.Random(122)
        smaller = 0
        for chroma, rows, filters in itertools.product((0, 1, 2), (1, 32), (False, True)):
            fmt = Format(12, 12, depth=8 + chroma, chroma=chroma)
            settings = Settings(fmt, slots=chance.randint(1, 4), rows=rows, deblock=filters, offset=filters, layers=4)
            for _ in range(2):
                headers = self.headers_of(chance, settings, 7)
                self.assertTrue(is_layered(settings, headers))
                pictures = [(header, random_slices(chance, settings, header)) for header in headers]
                layers = {header.number: header.layer for header in headers}
                stream = plain_stream(settings, pictures)
                decoded = decode_stream(stream)
                for most in range(4):
                    rest = drop_layers(stream, most)
                    self.assertEqual(decode_stream(rest), [row for row in decoded if layers[row[0]] <= most])
                    smaller += len(rest) < len(stream)
                    units = [unit for header, slices in pictures if header.layer <= most
                             for unit in plain_units(settings, [(header, slices)])[1:]]
                    self.assertEqual(rest, write_units(plain_units(settings, []) + units + [(4, [])]))
        self.assertGreater(smaller, 40)

    def test_sequences_that_are_not_layered(self):
        # The rest is decoded all the same.
        chance = random.Random(123)
        settings = Settings(Format(8, 16), slots=1, rows=1, layers=4)
        for _ in range(10):
            pictures = random_pictures(chance, settings, 5)
            layers = {header.number: header.layer for header, _ in pictures if header.shown}
            for most in range(4):
                numbers = [row[0] for row in decode_stream(drop_layers(plain_stream(settings, pictures), most))]
                self.assertEqual(numbers, sorted([number for number in layers if layers[number] <= most]))


if __name__ == "__main__":
    unittest.main()
