"""Rows of single moves that give turners."""

from noroadback.base.shortening import next_step
from noroadback.base.sides import SIGNS, put_behind, sides_of
from noroadback.base.words import check_letters
from noroadback.errors import InvalidOperation
from noroadback.turns.single import do_single, images_by, is_move, undone_move
from noroadback.turns.turners import MAX_MADE, check_turner, turner_made

MAX_MOVES = 50000


def are_moves(letters, value):
    """Whether the value is a tuple of at most 50,000 single moves of so many letters."""
    if not isinstance(value, tuple) or len(value) > MAX_MOVES:
        return False
    return all([is_move(letters, move) for move in value])


def moves_of(turner):
    """Single moves that give a turner; no product of the first ones is longer than it."""
    check_turner(turner)
    sides = sides_of(turner.images)
    moves = shortening_moves(sides) + sorting_moves(sides)
    return tuple([undone_move(move) for move in moves[::-1]])


def shortening_moves(sides):
    """The list of single moves that leave letters and contraries alone of the images, which are changed."""
    moves = []
    numbers = list(sides)
    step = next_step(sides, {}, numbers)
    while step is not None:
        goal, piece = step
        put_behind(sides, goal, piece)
        moves.append(("behind", goal, piece) if goal > 0 else ("ahead", -goal, -piece))
        step = next_step(sides, {}, numbers)
    return moves


def sorting_moves(sides):
    """The list of single moves that leave each letter to itself, of images that are letters and contraries."""
    moves = []
    for letter in range(1, len(sides) // 2 + 1):
        place = [number for number in sides if sides[number] == SIGNS[letter]][0]
        wanted = [("swap", letter, abs(place))] if abs(place) != letter else []
        wanted = wanted + ([("turn", letter)] if place < 0 else [])
        for move in wanted:
            do_single(sides, move)
        moves = moves + wanted
    return moves


def is_moves_of(turner, value):
    """Whether the value is a row of single moves that gives a turner without too long products on the way."""
    check_turner(turner)
    if not are_moves(turner.letters, value):
        return False
    return images_by(turner.letters, value, max(MAX_MADE, turner.length)) == turner.images


def made_by(letters, moves):
    """The turner that single moves give."""
    check_letters(letters)
    if not are_moves(letters, moves):
        raise InvalidOperation("no tuple of at most 50,000 single moves of so many letters")
    return turner_made(images_by(letters, moves, MAX_MADE))
