"""Values that are drawn by chance, the same ones in each run."""

import random

import brute
from noroadback.turns.turners import Turner


def dice(seed):
    """A source of chance."""
    return random.Random(seed)


def word(rng, letters, most):
    """A word of at most so many entries."""
    row = []
    for _ in range(rng.randint(0, most)):
        row.append(rng.choice([entry for entry in brute.entries(letters) if not row or entry != -row[-1]]))
    return tuple(row)


def words(rng, letters, least, number, most):
    """A tuple of words, from the least number of them on."""
    return tuple(word(rng, letters, most) for _ in range(rng.randint(least, number)))


def mixed(rng, rows, many, most):
    """Words that make the same lot: one is put behind or ahead of another one, again and again, none above a length."""
    rows = list(rows)
    for _ in range(many):
        one, other = rng.sample(range(len(rows)), 2)
        piece = rows[other] if rng.random() < 0.5 else brute.back(rows[other])
        pair = (rows[one], piece) if rng.random() < 0.5 else (piece, rows[one])
        row = brute.shrunk(sum(pair, ()))
        if len(row) <= most:
            rows[one] = row
    return tuple(rows)


def moves(rng, letters, many):
    """A row of so many single moves."""
    return tuple(rng.choice(brute.all_moves(letters)) for _ in range(many))


def images(rng, letters, many, most):
    """Images of a turner: those that so many drawn moves give, none of them above a length."""
    found = brute.idle(letters)
    for move in moves(rng, letters, many):
        following = brute.behind(found, brute.move_images(letters, move))
        if max(map(len, following)) <= most:
            found = following
    return found


def turners(seed, many, most=12, letters=None):
    """Turners of drawn images, of one to five letters by turns, or of the told number."""
    rng = dice(seed)
    for number in range(many):
        yield Turner(images(rng, letters or 1 + number % 5, rng.randint(0, 12), most))


def way(rng, number, many):
    """A way of so many words, of so many entries."""
    return tuple(rng.choice(brute.entries(number)) for _ in range(many)) if number else ()


def terms(rng, letters, number, most):
    """Terms of a sum: at most so many words of at most a length."""
    return {word(rng, letters, most): rng.choice([-3, -2, -1, 1, 2, 10 ** 20]) for _ in range(rng.randint(0, number))}
