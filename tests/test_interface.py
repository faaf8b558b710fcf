"""The names and arguments that the interface lists, its examples, and those of README.md."""

import importlib
import inspect
import pathlib
import re
import unittest

from thaumatrope import errors
from thaumatrope.bits import BitWriter
from thaumatrope.choices import Choices
from thaumatrope.coder import Encoder
from thaumatrope.container import pack_container
from thaumatrope.deblock import edge_limit, smooth_edge
from thaumatrope.decoder import decode_stream
from thaumatrope.desk import Desk
from thaumatrope.filters import quarter_sample
from thaumatrope.frames import Format
from thaumatrope.quant import quantize
from thaumatrope.rate import Bucket
from thaumatrope.report import report_stream
from thaumatrope.residue import scan_order
from thaumatrope.search import block_price, near_vectors
from thaumatrope.transform import forward, split_pair, turn_pair
from thaumatrope.units import escape, read_units

FUNCTIONS = {
    "frames": [
        "flat_frame(fmt, value=None)", "check_frame(fmt, frame)", "pad_frame(fmt, frame)",
        "crop_planes(fmt, planes)", "copy_planes(planes)", "squared_error(fmt, first, second)",
    ],
    "units": [
        "escape(octets)", "unescape(octets)", "write_unit(kind, payload)", "write_units(units)",
        "read_units(octets)",
    ],
    "headers": [
        "write_settings(settings)", "write_picture(settings, header)", "write_slice(settings, header, code)",
        "read_settings(payload)", "read_picture(settings, payload)", "read_slice(settings, payload)",
        "slice_level(picture_header, slice_header)",
    ],
    "data": [
        "level_shape(fmt, size)", "zero_levels(fmt, size)", "check_block(settings, header, block)",
        "check_slice(settings, header, index, data)",
    ],
    "intra": [
        "borders(plane, x, y, n, *, first_row, middle)", "predict_area(above, left, corner, mode, *, top)",
    ],
    "vectors": [
        "write_motion(writer, header, grid, x, y, motion)", "read_motion(reader, header, grid, x, y)",
    ],
    "filters": [
        "quarter_sample(plane, x, y, *, top)", "eighth_sample(plane, x, y, *, top)",
        "quarter_area(plane, x, y, width, height, *, top)", "eighth_area(plane, x, y, width, height, *, top)",
    ],
    "inter": [
        "predict_motion(fmt, header, motion, references, plane, x, y, width, height)",
        "predict_block(fmt, header, motions, references, column, row)",
    ],
    "transform": [
        "split_pair(first, second)", "join_pair(low, high)", "turn_pair(first, second, *, outer, inner)",
        "turn_back(first, second, *, outer, inner)", "forward(values)", "inverse(values)",
        "forward_square(square)", "inverse_square(square)",
    ],
    "quant": [
        "step_of(quantizer)", "quantize(value, *, quantizer, rounding=4)", "restore(level, quantizer)",
        "quantize_square(square, *, quantizer, rounding=4)", "restore_square(square, quantizer)",
    ],
    "residue": [
        "scan_order(size)", "to_levels(square)", "to_square(levels)", "put_levels(writer, levels)",
        "get_levels(reader, size)",
    ],
    "syntax": [
        "write_data(settings, header, index, data)", "read_data(settings, header, index, code, *, delta=0)",
    ],
    "rebuild": [
        "residue_of(levels, quantizer)",
        "rebuild_slice(settings, header, index, data, planes, references)",
    ],
    "deblock": [
        "edge_limit(first, second, edge)", "smooth_edge(a1, a0, b0, b1, *, limit, top)",
        "deblock(fmt, header, planes, blocks)",
    ],
    "offset": ["apply_offsets(settings, planes, offsets)"],
    "picture": [
        "middle_planes(fmt)", "references_of(settings, header, slots)",
        "rebuild_picture(settings, header, slices, slots, *, previous=None)",
    ],
    "decoder": ["decode_stream(octets)"],
    "encoder": [
        "check_pictures(settings, pictures)", "write_stream(settings, pictures)",
        "rebuild_pictures(settings, pictures)", "encode_frames(settings, frames, headers, choices)",
    ],
    "search": [
        "block_price(block)", "near_vectors(vector)", "search_frames(settings, frames, headers, *, weight=0)",
    ],
    "rate": [
        "picture_size(settings, header, slices)",
        "control_frames(settings, frames, headers, *, weight=0, rate, capacity)",
    ],
    "layers": ["is_layered(settings, headers)", "drop_layers(octets, most)"],
    "container": [
        "split_segments(octets)", "pack_container(entries)", "open_container(octets)", "seek_container(octets, time)",
    ],
    "report": ["report_stream(octets)"],
}
CLASSES = {
    ("frames", "Format"): [
        "__init__(self, width, height, *, depth=8, chroma=0)", "size(self, plane)", "coded_size(self, plane)",
        "blocks(self)", "text(self)", "planes", "middle", "top",
    ],
    ("bits", "BitWriter"): [
        "__init__(self)", "put(self, value, count)", "put_ue(self, value)", "put_se(self, value)", "length",
        "octets(self)",
    ],
    ("bits", "BitReader"): [
        "__init__(self, octets)", "get(self, count)", "get_ue(self)", "get_se(self)", "left",
    ],
    ("coder", "Encoder"): [
        "__init__(self)", "code(self, context, decision)", "code_even(self, decision)", "octets(self)",
        "probability(self, context)",
    ],
    ("coder", "Decoder"): [
        "__init__(self, octets)", "read(self, context)", "read_even(self)", "probability(self, context)",
    ],
    ("symbols", "SymbolWriter"): [
        "__init__(self, encoder)", "flag(self, base, value)", "choice(self, base, value, *, count)",
        "unary(self, base, value, *, most)", "number(self, base, value)", "signed(self, base, value)",
        "even(self, decision)",
    ],
    ("symbols", "SymbolReader"): [
        "__init__(self, decoder)", "flag(self, base)", "choice(self, base, *, count)",
        "unary(self, base, *, most)", "number(self, base)", "signed(self, base)", "even(self)",
    ],
    ("headers", "Settings"): [
        "__init__(self, fmt, *, slots=1, rows=1, deblock=False, offset=False, layers=1)", "slices(self)",
        "slice_rows(self, index)",
    ],
    ("headers", "PictureHeader"): [
        "__init__(self, settings, *, number, kind='I', level=0, store=(), refs=(), weight=8, layer=0, "
        "shown=True, edge=0)",
    ],
    ("headers", "SliceHeader"): ["__init__(self, settings, *, number, index, delta=0)"],
    ("vectors", "MotionGrid"): [
        "__init__(self, columns, rows)", "keep(self, column, row, motions)", "keep_quarter(self, x, y, motion)",
        "motion_at(self, x, y)", "predicted(self, x, y, *, second=False)", "skipped(self, column, row, kind)",
    ],
    ("decoder", "StreamDecoder"): [
        "__init__(self)", "take(self, kind, payload)", "finish(self)", "current_settings", "current_header",
    ],
    ("choices", "Choices"): ["__init__(self, numbers)", "among(self, count)", "left"],
    ("rate", "Bucket"): ["__init__(self, *, rate, capacity)", "fits(self, size)", "enter(self, size)"],
    ("desk", "Desk"): ["__init__(self)", "run(self, line)"],
}
ERRORS = """CodecError BadFormat BadFrame OutOfRange OutOfBits BadOctets BadHeader BadData BadContainer BadCommand
    CapacityTooSmall""".split()


class Names(unittest.TestCase):
    def test_functions(self):
        for module, texts in FUNCTIONS.items():
            for text in texts:
                function = getattr(importlib.import_module(f"thaumatrope.{module}"), text.partition("(")[0])
                self.assertEqual(function.__module__, f"thaumatrope.{module}")
                self.assertEqual(function.__name__ + str(inspect.signature(function)), text)

    def test_classes(self):
        for (module, name), texts in CLASSES.items():
            made = getattr(importlib.import_module(f"thaumatrope.{module}"), name)
            self.assertEqual(made.__module__, f"thaumatrope.{module}")
            for text in texts:
                word, bracket, _ = text.partition("(")
                self.assertIn(word, made.__dict__)
                if bracket:
                    self.assertEqual(word + str(inspect.signature(made.__dict__[word])), text)
                else:
                    self.assertIsInstance(made.__dict__[word], property)

    def test_errors(self):
        for name in ERRORS:
            made = getattr(errors, name)
            self.assertEqual(made.__module__, "thaumatrope.errors")
            self.assertTrue(issubclass(made, errors.CodecError))

    def test_class_method(self):
        self.assertIsInstance(Format.__dict__["parse"], classmethod)
        self.assertEqual(str(inspect.signature(Format.parse)), "(text)")

    def test_generator(self):
        self.assertTrue(inspect.isgeneratorfunction(read_units))


class Examples(unittest.TestCase):
    def test_frames(self):
        self.assertEqual(Format(17, 5, chroma=1).coded_size(1), (12, 4))
        self.assertEqual(Format(17, 5, chroma=1).text(), "17x5:8:1")

    def test_bits(self):
        writer = BitWriter()
        writer.put(5, 3)
        self.assertEqual(writer.octets(), [176])

    def test_units(self):
        self.assertEqual(escape([0, 0, 2]), [0, 0, 3, 2])
        self.assertEqual(list(read_units([7, 0, 0, 1, 4, 128])), [(1, 4, [])])

    def test_coder(self):
        encoder = Encoder()
        encoder.code_even(1)
        self.assertEqual(encoder.octets(), [127, 255, 248])

    def test_filters(self):
        self.assertEqual(quarter_sample([[10, 20]], 2, 0, top=255), 15)

    def test_transform(self):
        self.assertEqual(split_pair(5, 2), (3, 3))
        self.assertEqual(turn_pair(10, 4, outer=6, inner=12), (8, 8))
        self.assertEqual(forward([1, 2, 3, 4]), [2, -2, 0, -2])

    def test_quant(self):
        self.assertEqual(quantize(-13, quantizer=4), -1)

    def test_residue(self):
        self.assertEqual(scan_order(4)[:6], [(0, 0), (0, 1), (1, 0), (2, 0), (1, 1), (0, 2)])

    def test_deblock(self):
        self.assertEqual(edge_limit(4, 6, 0), 6)
        self.assertEqual(smooth_edge(100, 100, 108, 108, limit=6, top=255), (102, 106))

    def test_decoder(self):
        self.assertEqual(decode_stream([]), [])

    def test_choices(self):
        self.assertEqual(Choices([7, 9]).among(4), 3)

    def test_search(self):
        self.assertEqual(block_price(("intra", [0], 0, [[[2] + [0] * 63]])), 6)
        self.assertEqual(near_vectors((1, -1022)), [(1, -1022), (-3, -1022), (5, -1022), (1, -1023), (1, -1018)])

    def test_rate(self):
        bucket = Bucket(rate=3, capacity=10)
        self.assertEqual(bucket.enter(8), 8)
        self.assertEqual(bucket.fullness, 5)
        self.assertEqual(bucket.fits(6), False)

    def test_container(self):
        self.assertEqual(pack_container([(5, [1, 2])]), [84, 72, 65, 85, 0, 1, 0, 0, 0, 5, 0, 0, 0, 2, 1, 2])

    def test_report(self):
        self.assertEqual(report_stream([0, 0, 1, 4, 128]), [(0, 4, 2, "end")])

    def test_desk(self):
        desk = Desk()
        self.assertEqual(desk.run("format 8 8 8 0 1 1 0 0 1"), "ok")
        with self.assertRaises(errors.BadCommand):
            desk.run("flat 300")

    def test_readme(self):
        text = (pathlib.Path(__file__).resolve().parent.parent / "README.md").read_text()
        examples = re.findall(r"```python\n(.*?)```", text, re.DOTALL)
        self.assertTrue(examples)
        for example in examples:
            exec(example, {})


if __name__ == "__main__":
    unittest.main()
