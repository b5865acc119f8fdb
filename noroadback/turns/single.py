"""Single moves: the turners that lead all letters but one or two to themselves."""

from noroadback.base.integers import is_integer, is_within
from noroadback.base.sides import exchange, put_behind, row_of, sides_of, single_rows


def is_move(letters, value):
    """Whether the value is a single move of so many letters."""
    if not isinstance(value, tuple) or len(value) < 2 or not is_within(value[1], 1, letters):
        return False
    if len(value) == 2:
        return value[0] == "turn"
    if len(value) != 3 or not is_integer(value[2]):
        return False
    if value[0] == "swap":
        return value[1] < value[2] <= letters
    return value[0] in ("behind", "ahead") and 1 <= abs(value[2]) <= letters and abs(value[2]) != value[1]


def undone_move(move):
    """The single move that undoes a single move."""
    if move[0] in ("turn", "swap"):
        return move
    return (move[0], move[1], -move[2])


def do_single(sides, move):
    """Change the sides of some images to those of the product of their turner and of a single move."""
    if move[0] == "turn":
        exchange(sides, move[1], -move[1])
    elif move[0] == "swap":
        exchange(sides, move[1], move[2])
        exchange(sides, -move[1], -move[2])
    elif move[0] == "behind":
        put_behind(sides, move[1], move[2])
    else:
        put_behind(sides, -move[1], -move[2])


def images_by(letters, moves, most):
    """The images that a row of single moves gives, None if the product of some first ones is longer than the most."""
    sides = sides_of(single_rows(letters))
    for move in moves:
        do_single(sides, move)
        if sum([len(sides[letter]) for letter in range(1, letters + 1)]) > most:
            return None
    return tuple([row_of(sides[letter]) for letter in range(1, letters + 1)])
