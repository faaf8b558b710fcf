"""The first context of each value of the syntax (point 17)."""

SKIP = 0
INTRA = 3
SPLIT = 6
MODE = 8
CHROMA = 16
DIRECTION = 20
INDEX = 24
VECTOR_X = 25
VECTOR_Y = 41
SIZE = 57
CODED = 58
SIGNIFICANT = 64
LAST = 128
LEVEL = 192
OFFSET = 224
