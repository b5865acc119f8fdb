"""Drawn stands that never turn back, and roads, rounds, gates and sums of the tests' own."""

import brute
import drawn
from noroadback.rates.gates import back_paper
from noroadback.search.search import search_paper
from noroadback.turns.turners import turner_made
from noroadback.webs.changes import halved
from noroadback.webs.stands import rose_stand
from test_search import drawn_turners


def positive(rng, letters, many, most):
    """A turner of drawn moves, with images that have letters alone, but for letters that are turned everywhere."""
    images = brute.idle(letters)
    for move in drawn.moves(rng, letters, many):
        if move[0] == "swap" or (len(move) == 3 and move[2] > 0):
            found = brute.behind(images, brute.move_images(letters, move))
            images = found if brute.length(found) <= most else images
    for letter in range(1, letters + 1):
        if rng.random() < 0.4:
            turn = brute.move_images(letters, ("turn", letter))
            images = brute.behind(brute.behind(turn, images), turn)
    return turner_made(images)


def cut(rng, stand, most):
    """A stand with some ties halved, at most so many in the end."""
    for _ in range(rng.randint(0, 5)):
        tie = rng.randint(1, stand.size)
        size = len(stand.images[tie - 1])
        if size > 1 and stand.size < most:
            stand = halved(stand, tie, rng.randint(1, size - 1))
    return stand


def stands(seed, many, length=20, ties=12):
    """Stands that never turn back: roses without contraries, halved ones, and some that come out of the search."""
    rng = drawn.dice(seed)
    found = [paper[1] for paper in map(search_paper, drawn_turners(seed, many // 4, 2, 4, 24)) if paper[0] == "never"]
    for number in range(many):
        if number % 5 == 4 and found:
            yield rng, found.pop()
        else:
            yield rng, cut(rng, rose_stand(positive(rng, 1 + number % 5, rng.randint(0, 14), length)), ties)


def turning_back(seed, many):
    """Stands that turn back: roses of drawn turners."""
    for turner in drawn.turners(seed, many):
        if back_paper(rose_stand(turner))[0] == "back":
            yield rose_stand(turner)


def images_of(stand):
    """The images of all directed ties."""
    return {sign * tie: image if sign > 0 else brute.back(image) for tie, image in enumerate(stand.images, start=1) for sign in (1, -1)}


def do_meet(images, one, other):
    """Whether two directed ties come to one by firsts."""
    for _ in range(len(images)):
        if one == other:
            return True
        one, other = images[one][0], images[other][0]
    return one == other


def is_open(images, road):
    """Whether a tight road is open."""
    return not any(do_meet(images, -one, other) for one, other in zip(road, road[1:]))


def following(stand, images, tie):
    """The directed ties that continue a tie to an open road."""
    return [entry for entry in brute.beginnings(stand.web.ties, brute.end(stand.web.ties, tie)) if is_open(images, (tie, entry)) and entry != -tie]


def tight_road(rng, stand, most):
    """A tight road of at least one tie."""
    while True:
        pairs = stand.web.ties
        road = brute.shrunk(drawn.road(rng, pairs, rng.choice(brute.points(pairs)), rng.randint(1, most)))
        if road:
            return road


def open_road(rng, stand, most):
    """An open road of at least one tie, as long as can be."""
    images = images_of(stand)
    road = (rng.choice(brute.entries(stand.size)),)
    while len(road) < most and following(stand, images, road[-1]):
        road += (rng.choice(following(stand, images, road[-1])),)
    return road


def tight_round(rng, stand, most):
    """A tight round of at least one tie."""
    pairs = stand.web.ties
    while True:
        road = tight_road(rng, stand, most)
        while road and brute.begin(pairs, road[0]) != brute.end(pairs, road[-1]):
            road = road[:-1]
        road = brute.core_of(road)
        if road:
            return road


def common(one, other):
    """How many first entries two rows have in common."""
    return next((place for place, (first, second) in enumerate(zip(one, other)) if first != second), min(len(one), len(other)))


def sums(stand, weights):
    """The weights of the images."""
    return tuple(sum(weights[abs(entry) - 1] for entry in image) for image in stand.images)
