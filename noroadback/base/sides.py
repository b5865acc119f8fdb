"""Rows with numbers, and rows that are made of them.

Sides are a dict that has, for each number of a row from 1 on, the row, and for the opposite number its
contrary. Rows stand in them as texts, with a sign for each entry: long texts are cut, put together and
compared much faster than long tuples. Nothing is checked here, and rows can have any length.
"""

from noroadback.base.rows import common_end, opposite

# The ties of a web are the most rows that are numbered.
SIGNS = {
    1: "a", 2: "b", 3: "c", 4: "d", 5: "e", 6: "f", 7: "g", 8: "h",
    9: "i", 10: "j", 11: "k", 12: "l", 13: "m", 14: "n", 15: "o", 16: "p",
    17: "q", 18: "r", 19: "s", 20: "t", 21: "u", 22: "v", 23: "w", 24: "x",
    -1: "A", -2: "B", -3: "C", -4: "D", -5: "E", -6: "F", -7: "G", -8: "H",
    -9: "I", -10: "J", -11: "K", -12: "L", -13: "M", -14: "N", -15: "O", -16: "P",
    -17: "Q", -18: "R", -19: "S", -20: "T", -21: "U", -22: "V", -23: "W", -24: "X",
}
ENTRIES = {
    "a": 1, "b": 2, "c": 3, "d": 4, "e": 5, "f": 6, "g": 7, "h": 8,
    "i": 9, "j": 10, "k": 11, "l": 12, "m": 13, "n": 14, "o": 15, "p": 16,
    "q": 17, "r": 18, "s": 19, "t": 20, "u": 21, "v": 22, "w": 23, "x": 24,
    "A": -1, "B": -2, "C": -3, "D": -4, "E": -5, "F": -6, "G": -7, "H": -8,
    "I": -9, "J": -10, "K": -11, "L": -12, "M": -13, "N": -14, "O": -15, "P": -16,
    "Q": -17, "R": -18, "S": -19, "T": -20, "U": -21, "V": -22, "W": -23, "X": -24,
}


def text_of(row):
    """The text of a row."""
    return "".join([SIGNS[entry] for entry in row])


def row_of(text):
    """The row that a text tells."""
    return tuple([ENTRIES[sign] for sign in text])


def single_rows(most):
    """The rows of the integers from 1 to the most one."""
    return tuple([(number,) for number in range(1, most + 1)])


def sides_of(rows):
    """The sides of some rows."""
    sides = {}
    for number, row in enumerate(rows, start=1):
        sides[number] = text_of(row)
        sides[-number] = text_of(opposite(row))
    return sides


def met(one, other):
    """The pair of a product and of its contrary, for two pairs of a text and of its contrary."""
    struck = common_end(one[0], other[1])
    return (
        one[0][:len(one[0]) - struck] + other[0][struck:],
        other[1][:len(other[1]) - struck] + one[1][struck:],
    )


def put_behind(sides, goal, piece):
    """Put the row of the number `piece` behind that of the number `goal`."""
    sides[goal], sides[-goal] = met((sides[goal], sides[-goal]), (sides[piece], sides[-piece]))


def exchange(sides, one, other):
    """Exchange the rows of two numbers."""
    sides[one], sides[other] = sides[other], sides[one]


def told_sides(sides, numbers, enough):
    """The pair of the product of the rows of some numbers, and of its contrary, as texts.

    If a part of it has more entries than are told to be enough, this part is returned.
    """
    if len(numbers) == 0:
        return "", ""
    if len(numbers) == 1:
        return sides[numbers[0]], sides[-numbers[0]]
    half = len(numbers) // 2
    one = told_sides(sides, numbers[:half], enough)
    if enough is not None and len(one[0]) > enough:
        return one
    other = told_sides(sides, numbers[half:], enough)
    if enough is not None and len(other[0]) > enough:
        return other
    return met(one, other)


def told_row(sides, numbers, enough=None):
    """The product of the rows of some numbers, or a part of it with more entries than are told to be enough."""
    return row_of(told_sides(sides, numbers, enough)[0])
