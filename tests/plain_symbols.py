"""The decisions of point 15 as lists, for comparison with those of the program.

A decision is a tuple (context, decision), or (None, decision) if it is even.
"""


class Listing:
    """Takes the place of an encoder, and lists what is coded: (context, decision), or (None, decision) if even."""

    def __init__(self):
        self.steps = []

    def code(self, context, decision):
        self.steps.append((context, decision))

    def code_even(self, decision):
        self.steps.append((None, decision))


class Playing:
    """Takes the place of a decoder, and returns given decisions; it lists the contexts that are asked for."""

    def __init__(self, decisions):
        self.decisions = list(decisions)
        self.contexts = []

    def read(self, context):
        self.contexts.append(context)
        return self.decisions.pop(0)

    def read_even(self):
        return self.read(None)


def plain_flag(base, value):
    return [(base, 1 if value else 0)]


def plain_choice(base, value, count):
    width = 0
    while 2 ** width < count:
        width += 1
    digits = f"{value:b}".zfill(width) if width else ""
    return [(base + int("1" + digits[:place], 2) - 1, int(digit)) for place, digit in enumerate(digits)]


def plain_unary(base, value, most):
    decisions = [1] * value + ([0] if value < most else [])
    return [(base + min(index, 7), decision) for index, decision in enumerate(decisions)]


def plain_number(base, value):
    digits = f"{value + 1:b}"
    k = len(digits)
    steps = plain_unary(base, k - 1, 20)
    for place, digit in enumerate(digits[1:]):
        steps.append((base + 8 + min(k - 2, 7) if place == 0 else None, int(digit)))
    return steps


def plain_signed(base, value):
    return plain_number(base, abs(value)) + ([(None, int(value < 0))] if value else [])
