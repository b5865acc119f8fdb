"""What deeds make of turners, and whether sayings are true of turners. Nothing is checked here but for that."""

from noroadback.base.rows import ring_of
from noroadback.base.sides import sides_of, told_row
from noroadback.errors import TooMany
from noroadback.turns.alike import alike_word, turner_order
from noroadback.turns.images import images_behind, images_undone, length_of
from noroadback.turns.single import images_by
from noroadback.turns.turners import MAX_MADE, table_of
from noroadback.turns.turning import rows_turned


def images_led(one, by, most):
    """The images of by * one * by.undone(), told by images; None if they, or those that undo by, are too long."""
    undone = images_undone(by, MAX_MADE)
    if undone is None:
        return None
    return images_behind(images_behind(by, one, MAX_MADE), undone, most)


def images_turned(images, word, most):
    """Images turned by a word, None if they are longer than the most."""
    found = rows_turned(images, word)
    return found if length_of(found) <= most else None


def images_made(kept, deed, most):
    """The images that a deed makes of those that a dict has for names, None if they are too long."""
    sort, last = deed[0], deed[-1]
    if sort == "put":
        return last.images if last.length <= most else None
    if sort == "same":
        return kept[last].images
    if sort == "behind":
        return images_behind(kept[deed[2]].images, kept[last].images, most)
    images = kept[deed[1]].images
    if sort == "undone":
        return images_undone(images, most)
    if sort == "move":
        return images_behind(images, images_by(len(images), (last,), MAX_MADE), most)
    if sort == "turned":
        return images_turned(images, last, most)
    return images_led(images, kept[last].images, most)


def is_order_number(turner, number):
    """Whether a number is the first one of the order of a turner, and this is not too hard to tell."""
    try:
        told = turner_order(turner)
    except TooMany:
        return False
    return told is not None and told[0] == number


def is_true_of(kept, saying):
    """Whether a saying is true of the turners that a dict has for names."""
    sort, turner, last = saying[0], kept[saying[1]], saying[2]
    if sort == "table":
        return table_of(turner) == last
    if sort == "order":
        return is_order_number(turner, last)
    if sort == "short":
        return turner.length <= last
    if sort in ("alike", "unlike"):
        return (alike_word(turner, kept[last]) is not None) == (sort == "alike")
    goal = told_row(sides_of(turner.images), last)
    return goal == last if sort == "stays" else ring_of(goal) == ring_of(last)
