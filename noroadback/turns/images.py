"""Images of turners: tuples of words that make all. Nothing is checked here; they can have any length."""

from noroadback.base.shortening import next_step
from noroadback.base.sides import SIGNS, put_behind, row_of, sides_of, single_rows, told_row


def length_of(images):
    """The length of the turner with some images."""
    return sum([len(image) for image in images])


def images_behind(one, other, most):
    """The images of the product of the turners with some images, None if its length is above the most."""
    sides = sides_of(one)
    # Where two words meet without strikes, their images lose at most so many entries each as all images of
    # letters have. So a part that is longer by twice this than the most cannot become short again.
    enough = most + 2 * length_of(one)
    images = tuple([told_row(sides, image, enough) for image in other])
    return images if length_of(images) <= most else None


def images_to_power(images, many, most):
    """The images of a power from 1 on, None if it or one of the lesser ones has a length above the most."""
    power = images if length_of(images) <= most else None
    for _ in range(many - 1):
        if power is not None:
            power = images_behind(power, images, most)
    return power


def images_leading(rows, goals, most=None):
    """What the letters are led to if rows that make all are led to goals; None if some are longer than the most.

    The goals can have other letters than the rows.
    """
    sides = sides_of(rows)
    ways = sides_of(goals)
    numbers = list(sides)
    step = next_step(sides, ways, numbers)
    while step is not None:
        goal, piece = step
        put_behind(sides, goal, piece)
        put_behind(ways, goal, piece)
        # A way is what the row is led to: from a length above the most for each entry it is told by this.
        if most is not None and len(ways[goal]) > most * len(sides[goal]):
            return None
        step = next_step(sides, ways, numbers)
    return tuple([row_of(ways[number]) for letter in range(1, len(rows) + 1) for number in numbers
                  if sides[number] == SIGNS[letter]])


def images_undone(images, most):
    """The images of the turner that undoes the one with some images, None if its length is above the most."""
    undone = images_leading(images, single_rows(len(images)), most)
    return undone if undone is not None and length_of(undone) <= most else None
