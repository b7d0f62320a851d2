"""The greatest numbers that the program takes."""

MOST_HALLS = 64
MOST_COLOURS = 16
MOST_ROW = 400
MOST_TIMES = 10 ** 30
MOST_LENGTH = 200
MOST_PARTS = 72
