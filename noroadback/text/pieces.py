"""Pieces of texts: words, numbers, ties and images. Nothing is told, but None, of what cannot be read."""

from noroadback.base.sides import ENTRIES, row_of, text_of
from noroadback.base.words import MAX_LETTERS

DIGITS = "0123456789"
MOST_DIGITS = 2


def word_text(word):
    """The text of a word."""
    return "1" if word == () else text_of(word)


def can_follow(letters, before, sign):
    """Whether a sign can stand behind another one, or ahead of all if this one is empty, in the text of a word."""
    # A text is read from its first character on: `1` can stand ahead, and what comes behind it cannot, whatever it is.
    if before == "1":
        return False
    if sign == "1":
        return before == ""
    entry = ENTRIES.get(sign, 0)
    return 1 <= abs(entry) <= letters and entry != -ENTRIES.get(before, 0)


def first_wrong(letters, text):
    """The index of the first character that cannot stand where it stands in the text of a word, None if all can."""
    before = ""
    for index, sign in enumerate(text):
        if not can_follow(letters, before, sign):
            return index
        before = sign
    return len(text) if text == "" else None


def word_told(text):
    """The word that a right text tells."""
    return () if text == "1" else row_of(text)


def number_told(text):
    """The number from 0 to 99 that a text tells, None if it tells none."""
    if not 1 <= len(text) <= MOST_DIGITS or not all([sign in DIGITS for sign in text]):
        return None
    if text[0] == "0" and text != "0":
        return None
    return int(text)


def directed_told(text):
    """The number from -99 to 99 without 0 that a text tells, None if it tells none."""
    number = number_told(text[1:] if text.startswith("-") else text)
    if number is None or number == 0:
        return None
    return -number if text.startswith("-") else number


def all_told(parts):
    """The tuple of what some texts tell, None if one of them tells nothing."""
    return None if None in parts else tuple(parts)


def word_piece(text):
    """The word of five letters that a text tells, None if it tells none."""
    return word_told(text) if first_wrong(MAX_LETTERS, text) is None else None


def pair_piece(text):
    """The pair of points that a text tells, None if it tells none."""
    parts = text.split(">")
    return all_told([number_told(part) for part in parts]) if len(parts) == 2 else None


def tie_piece(text):
    """The triple of a pair of points, a word and an image that a text tells, None if it tells none."""
    parts = text.split(":")
    if len(parts) != 3:
        return None
    image = all_told([directed_told(part) for part in parts[2].split(".")])
    return all_told([pair_piece(parts[0]), word_piece(parts[1]), image])


def pieces_of(text):
    """The list of the pairs of the index and the text of each piece."""
    found = []
    start = 0
    for part in text.split(" "):
        if part != "":
            found.append((start, part))
        start = start + len(part) + 1
    return found


def pair_text(pair):
    """The text of a pair of points."""
    return f"{pair[0]}>{pair[1]}"


def tie_text(pair, word, image):
    """The text of a pair of points, a word and an image."""
    road = ".".join([str(tie) for tie in image])
    return f"{pair_text(pair)}:{word_text(word)}:{road}"
