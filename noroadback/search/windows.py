"""Rows of ties in far images, found as texts. Nothing is checked here; no image turns back.

The rows that are found are a list that has for each length, from 0 on, a dict with their texts.
"""

from noroadback.base.sides import SIGNS


def keep(found, text, waiting):
    """Keep a row, if it is not known, and let it wait to be led on."""
    if text not in found[len(text)]:
        found[len(text)][text] = True
        waiting.append(text)


def keep_within(found, text, waiting):
    """Keep all rows in a text."""
    for length in range(1, len(found)):
        for place in range(len(text) - length + 1):
            keep(found, text[place:place + length], waiting)


def keep_across(found, parts, waiting):
    """Keep all rows in some texts, put behind one another, that begin in the first one and end in the last one."""
    most = len(found) - 1
    between = sum([len(part) for part in parts[1:-1]])
    if between + 2 > most:
        return
    head, tail = parts[0][-most:], parts[-1][:most]
    text = "".join([head, *parts[1:-1], tail])
    for begin in range(len(head)):
        for end in range(len(head) + between + 1, min(len(text), begin + most) + 1):
            keep(found, text[begin:end], waiting)


def are_few(found, most):
    """Whether there are at most so many rows of each length."""
    return all([len(texts) <= most for texts in found])


def rows_from(sides, tie, length, most):
    """The rows of a tie to a length, None if there are more than the most of one length.

    A row of one image lies in the images of a row, as long or shorter, of the image ahead. So the rows of the first
    image, those in their images, and so on, are all of them. The sides are those of the images.
    """
    images = {SIGNS[number]: text for number, text in sides.items()}
    found = [{} for _ in range(length + 1)]
    waiting = []
    keep_within(found, sides[tie], waiting)
    while waiting and are_few(found, most):
        parts = [images[sign] for sign in waiting.pop()]
        # What lies in fewer of these images lies in those of a shorter row.
        if len(parts) == 1:
            keep_within(found, parts[0], waiting)
        else:
            keep_across(found, parts, waiting)
    return found if are_few(found, most) else None
