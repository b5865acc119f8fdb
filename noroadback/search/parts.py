"""Pieces of kept parts, what is left of a stand without one, and the images of the turners of both.

Nothing is checked here. A draft is one of a stand, and some ties of it are a kept part. Images can have any length.
"""

from noroadback.base.rows import reduced
from noroadback.base.sides import sides_of, told_row
from noroadback.webs.drafts import own_labels, without
from noroadback.webs.ties import base_rounds_of, pieces_in, points_in, rank_of_ties, reading_of
from noroadback.webs.webs import base_words


def pairs_alone(ties, chosen):
    """The pairs of some ties, by themselves, their points numbered again."""
    pairs = [ties[tie - 1] for tie in chosen]
    numbers = {point: number for number, point in enumerate(points_in(pairs))}
    return tuple([(numbers[begin], numbers[end]) for begin, end in pairs])


def ranked_pieces(ties, chosen):
    """The list of the pieces of some ties that have a rank above 0."""
    return [piece for piece in pieces_in(ties, chosen) if rank_of_ties(pairs_alone(ties, piece)) > 0]


def piece_at(ties, chosen, point):
    """The piece, with a rank above 0, in which a point lies, None if there is none."""
    for piece in ranked_pieces(ties, chosen):
        if point in points_in([ties[tie - 1] for tie in piece]):
            return piece
    return None


def round_from(draft, chosen, piece):
    """The list of the pieces to which a piece with a rank above 0 is led again and again, from it on."""
    ties, _, images = draft
    found = [piece]
    while len(found) == 1 or found[-1] != piece:
        entry = abs(images[found[-1][0] - 1][0])
        found.append([other for other in ranked_pieces(ties, chosen) if entry in other][0])
    return found[:-1]


def rounds_of_pieces(draft, chosen):
    """The list of the rounds of pieces, each a list of pieces."""
    rounds = []
    for piece in ranked_pieces(draft[0], chosen):
        if not any([piece in found for found in rounds]):
            rounds.append(round_from(draft, chosen, piece))
    return rounds


def piece_images(draft, piece, power):
    """Images of the turner of a piece that so many powers of the stand lead into itself."""
    ties, _, images = draft
    pairs = pairs_alone(ties, piece)
    words = [()] * len(ties)
    for tie, word in zip(piece, base_words(pairs)):
        words[tie - 1] = word
    sides = sides_of(images)
    roads = [tuple([piece[tie - 1] if tie > 0 else -piece[-tie - 1] for tie in road]) for road in base_rounds_of(pairs)]
    for _ in range(power):
        roads = [told_row(sides, road) for road in roads]
    # In the base naming the roads of the least tree read (), so that going there and back changes nothing.
    return tuple([reading_of(words, road) for road in roads])


def rest_images(draft, chosen):
    """Images of the turner of what is left without a kept part, None if its rank is 0."""
    ties = draft[0]
    labels = own_labels(ties)
    for piece in pieces_in(ties, chosen):
        points = points_in([ties[tie - 1] for tie in piece])
        for point in points:
            labels[point] = points[0]
    left, _, loose = without(draft, chosen, labels)
    if rank_of_ties(left) == 0:
        return None
    naming = base_words(left)
    sides = sides_of([reduced(image) for image in loose])
    return tuple([reading_of(naming, told_row(sides, road)) for road in base_rounds_of(left)])
