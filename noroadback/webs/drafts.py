"""Drafts: triples (ties, words, images) of stands, and their changes. Nothing is checked here.

In drafts that are made here images can be (). Words, images and roads can have any length.
"""

from noroadback.base.rows import opposite, product_of, reduced, times
from noroadback.webs.ties import begin_of, beginnings_at, end_of, pieces_in, points_in, reading_of, roads_from


def image_of(draft, tie):
    """The image of a directed tie."""
    images = draft[2]
    return images[tie - 1] if tie > 0 else opposite(images[-tie - 1])


def word_read(draft, tie):
    """The reading of a directed tie."""
    return reading_of(draft[1], (tie,))


def shifted(ties, words, shifts):
    """The words of the ties behind shifts of some points, told by a dict from these points to words."""
    return tuple([
        product_of((opposite(shifts.get(begin, ())), word, shifts.get(end, ())))
        for (begin, end), word in zip(ties, words)
    ])


def without(draft, gone, labels):
    """The draft without some ties. Points with equal labels become one; the label is the least of them."""
    ties, words, images = draft
    left = [tie for tie in range(1, len(ties) + 1) if tie not in gone]
    numbers = {}
    for number, tie in enumerate(left, start=1):
        numbers[tie] = number
        numbers[-tie] = -number
    used = sorted({labels[point] for tie in left for point in ties[tie - 1]})
    points = {label: point for point, label in enumerate(used)}
    return (
        tuple([(points[labels[ties[tie - 1][0]]], points[labels[ties[tie - 1][1]]]) for tie in left]),
        tuple([words[tie - 1] for tie in left]),
        tuple([tuple([numbers[entry] for entry in images[tie - 1] if abs(entry) not in gone]) for tie in left]),
    )


def own_labels(ties):
    """The labels with which no points become one."""
    return {point: point for point in points_in(ties)}


def one_label(ties, one, other):
    """The labels with which two points become one."""
    return {point: min(one, other) if point in (one, other) else point for point in points_in(ties)}


def draft_halved(draft, tie, place):
    """The draft with a tie that is cut in two, so that the first half has so many entries of its image."""
    ties, words, images = draft
    begin, end = ties[tie - 1]
    point = len(points_in(ties))
    second = len(ties) + 1
    halves = {tie: (tie, second), -tie: (-second, -tie)}
    parts = [*images[:tie - 1], images[tie - 1][:place], *images[tie:], images[tie - 1][place:]]
    return (
        (*ties[:tie - 1], (begin, point), *ties[tie:], (point, end)),
        (*words, ()),
        tuple([tuple([half for entry in part for half in halves.get(entry, (entry,))]) for part in parts]),
    )


def do_fold(draft, one, other):
    """Whether two directed ties of unlike ties begin at one point and have equal images."""
    ties = draft[0]
    if abs(one) == abs(other) or begin_of(ties, one) != begin_of(ties, other):
        return False
    return image_of(draft, one) == image_of(draft, other)


def draft_folded(draft, one, other):
    """The draft in which two directed ties, that begin at one point and have equal images, become one."""
    ties, words, images = draft
    first, second = word_read(draft, one), word_read(draft, other)
    if end_of(ties, other) == begin_of(ties, other):
        shifts = {end_of(ties, one): times(opposite(first), second)}
    else:
        shifts = {end_of(ties, other): times(opposite(second), first)}
    kept, gone = (one, other) if abs(one) < abs(other) else (other, one)
    instead = {gone: kept, -gone: -kept}
    tightened = tuple([reduced([instead.get(entry, entry) for entry in image]) for image in images])
    labels = one_label(ties, end_of(ties, one), end_of(ties, other))
    return without((ties, shifted(ties, words, shifts), tightened), (abs(gone),), labels)


def is_kept_set(draft, chosen):
    """Whether the images of some ties have ties of them alone."""
    images = draft[2]
    return all([abs(entry) in chosen for tie in chosen for entry in images[tie - 1]])


def draft_shrunk(draft, chosen):
    """The draft in which the pieces of a forest that is led into itself become points."""
    ties, words, images = draft
    labels = own_labels(ties)
    shifts = {}
    for piece in pieces_in(ties, chosen):
        least = min([min(ties[tie - 1]) for tie in piece])
        for point, road in roads_from(ties, piece, least).items():
            labels[point] = least
            shifts[point] = opposite(reading_of(words, road))
    return without((ties, shifted(ties, words, shifts), images), chosen, labels)


def draft_pulled(draft, point):
    """The draft without an end and the tie that begins or ends there."""
    tie = beginnings_at(draft[0], point)[0]
    return without(draft, (abs(tie),), own_labels(draft[0]))


def is_passing(ties, point):
    """Whether just two directed ties begin at a point, and these are of unlike ties."""
    found = beginnings_at(ties, point)
    return len(found) == 2 and abs(found[0]) != abs(found[1])


def draft_joined(draft, point, named):
    """The draft in which the other tie at a point with just two beginnings is lengthened by the named one."""
    ties, words, images = draft
    first, second = beginnings_at(ties, point)
    away, other = (first, second) if abs(first) == named else (second, first)
    far = end_of(ties, away)
    # The road along both goes as the other tie does.
    road = (-away, other) if other > 0 else (-other, away)
    place = abs(other) - 1
    pair = (far, ties[place][1]) if other > 0 else (ties[place][0], far)
    image = product_of([image_of(draft, entry) for entry in road])
    longer = (
        (*ties[:place], pair, *ties[place + 1:]),
        (*words[:place], reading_of(words, road), *words[place + 1:]),
        (*images[:place], image, *images[place + 1:]),
    )
    return without(longer, (named,), one_label(ties, point, far))
