"""Rows with numbers, and rows that are made of them.

Sides are a dict that has, for each number of a row from 1 on, the row as a list, and for the opposite
number its contrary. Nothing is checked here, and rows can have any length.
"""

from noroadback.base.rows import common_end, opposite


def single_rows(most):
    """The rows of the integers from 1 to the most one."""
    return tuple([(number,) for number in range(1, most + 1)])


def sides_of(rows):
    """The sides of some rows."""
    sides = {}
    for number, row in enumerate(rows, start=1):
        sides[number] = list(row)
        sides[-number] = list(opposite(row))
    return sides


def put_behind(sides, goal, piece):
    """Put the row of the number `piece` behind that of the number `goal`; they are numbers of two rows."""
    struck = common_end(sides[goal], sides[-piece])
    kept = len(sides[piece]) - struck
    size = len(sides[goal])
    sides[goal][size - struck:] = sides[piece][struck:]
    sides[-goal][:struck] = sides[-piece][:kept]


def exchange(sides, one, other):
    """Exchange the rows of two numbers."""
    sides[one], sides[other] = sides[other], sides[one]


def told_row(sides, numbers, enough=None):
    """The product of the rows of some numbers.

    It is given up, and what is there is returned, where it has more entries than are told to be enough.
    """
    row = []
    for number in numbers:
        struck = common_end(row, sides[-number])
        row[len(row) - struck:] = sides[number][struck:]
        if enough is not None and len(row) > enough:
            break
    return tuple(row)
