"""The limits that the document names."""

MODES = 6
KEYS = 6
ITEMS = 6
DEPTH = 2
NUMBER = 10 ** 9
BOOKS = 3
STATES = 36
# 10 ** 4000 in steps, as an exponent may be 64 at most.
SIZE = ((10 ** 50) ** 16) ** 5
PATTERN = 8
GOAL = 200
