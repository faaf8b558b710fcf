"""The codes of points 7 and 8 as texts of bits, for comparison with those of the program."""


def octets_of(bits):
    """The octets that contain a text of bits."""
    bits += "1"
    bits += "0" * (-len(bits) % 8)
    return [int(bits[place:place + 8], 2) for place in range(0, len(bits), 8)]


def ue_of(value):
    """The exponential code of a number."""
    digits = f"{value + 1:b}"
    return "0" * (len(digits) - 1) + digits


def se_of(value):
    """The signed code of a number."""
    return ue_of(2 * value - 1 if value > 0 else -2 * value)
