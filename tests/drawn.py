"""Values that are drawn by chance, the same ones in each run."""

import random

import brute
from noroadback.turns.turners import Turner


def dice(seed):
    """A source of chance."""
    return random.Random(seed)


def word(rng, letters, most):
    """A word of at most so many entries."""
    row = []
    for _ in range(rng.randint(0, most)):
        row.append(rng.choice([entry for entry in brute.entries(letters) if not row or entry != -row[-1]]))
    return tuple(row)


def words(rng, letters, least, number, most):
    """A tuple of words, from the least number of them on."""
    return tuple(word(rng, letters, most) for _ in range(rng.randint(least, number)))


def mixed(rng, rows, many, most):
    """Words that make the same lot: one is put behind or ahead of another one, again and again, none above a length."""
    rows = list(rows)
    for _ in range(many):
        one, other = rng.sample(range(len(rows)), 2)
        piece = rows[other] if rng.random() < 0.5 else brute.back(rows[other])
        pair = (rows[one], piece) if rng.random() < 0.5 else (piece, rows[one])
        row = brute.shrunk(sum(pair, ()))
        if len(row) <= most:
            rows[one] = row
    return tuple(rows)


def moves(rng, letters, many):
    """A row of so many single moves."""
    return tuple(rng.choice(brute.all_moves(letters)) for _ in range(many))


def images(rng, letters, many, most):
    """Images of a turner: those that so many drawn moves give, none of them above a length."""
    found = brute.idle(letters)
    for move in moves(rng, letters, many):
        following = brute.behind(found, brute.move_images(letters, move))
        if max(map(len, following)) <= most:
            found = following
    return found


def turners(seed, many, most=12, letters=None):
    """Turners of drawn images, of one to five letters by turns, or of the told number."""
    rng = dice(seed)
    for number in range(many):
        yield Turner(images(rng, letters or 1 + number % 5, rng.randint(0, 12), most))


def way(rng, number, many):
    """A way of so many words, of so many entries."""
    return tuple(rng.choice(brute.entries(number)) for _ in range(many)) if number else ()


def terms(rng, letters, number, most):
    """Terms of a sum: at most so many words of at most a length."""
    return {word(rng, letters, most): rng.choice([-3, -2, -1, 1, 2, 10 ** 20]) for _ in range(rng.randint(0, number))}


def ties(rng, rank, most):
    """Ties of a web of a rank with at most so many points."""
    points = rng.randint(1, most)
    names = list(range(points))
    rng.shuffle(names)
    pairs = [(names[place], names[rng.randrange(place)]) for place in range(1, points)]
    pairs += [(rng.randrange(points), rng.randrange(points)) for _ in range(rank)]
    rng.shuffle(pairs)
    return tuple(pair if rng.random() < 0.5 else pair[::-1] for pair in pairs)


def road(rng, pairs, start, many):
    """A road of so many ties from a point on, as a rule not tight; () if no tie begins there."""
    row = []
    for _ in range(many):
        row.append(rng.choice([tie for tie in brute.entries(len(pairs)) if brute.begin(pairs, tie) == start]))
        start = brute.end(pairs, row[-1])
    return tuple(row)


def parts(rng, letters, most=4, turner=None):
    """Ties, words and images of a stand, and the images of its very turner, made from drawn moves and roads.

    The turner of the letters of the base naming is put on the web; each point is moved along a drawn road, the words are
    led by a drawn turner, and shifted at each point.
    """
    pairs = ties(rng, letters, most)
    inner = turner or images(rng, letters, rng.randint(0, 8), 6)
    naming = images(rng, letters, rng.randint(0, 5), 4)
    rounds, base = brute.base_rounds(pairs)
    points = sorted({point for pair in pairs for point in pair})
    shifts = [()] + [word(rng, letters, 3) for _ in points[1:]]
    words_told = tuple(brute.times(brute.back(shifts[begin]), brute.told(naming, base[tie - 1]), shifts[end])
                       for tie, (begin, end) in enumerate(pairs, start=1))
    led = [brute.told(rounds, inner[name[0] - 1]) if name else () for name in base]
    while True:
        moved = [brute.shrunk(road(rng, pairs, 0, rng.randint(0, 4))) for _ in points]
        found = tuple(brute.shrunk(brute.back(moved[begin]) + led[tie - 1] + moved[end])
                      for tie, (begin, end) in enumerate(pairs, start=1))
        if all(found):
            break
    # The rounds at the point 0 read to what the naming leads letters to; what they are led to is read where 0 is led to.
    goals = [brute.reading(words_told, brute.led(found, row)) for row in rounds]
    turner_images = brute.behind(goals, brute.undone(naming))
    return pairs, words_told, found, turner_images
