"""Texts of words, turners, webs and stands, written and read."""

from noroadback.base.words import check_letters, check_words
from noroadback.errors import ParseError, TooMany
from noroadback.text.pieces import (
    first_wrong, pair_piece, pair_text, pieces_of, tie_piece, tie_text, word_piece, word_text, word_told,
)
from noroadback.turns.turners import Turner, check_turner
from noroadback.webs.stands import Stand, check_stand
from noroadback.webs.webs import Web, check_web

MAX_TEXT = 20000


def check_text(text):
    """Raise the error of what is no text that can be read."""
    if not isinstance(text, str) or len(text) > MAX_TEXT:
        raise ParseError(None)


def written(pieces):
    """The text of some pieces, if it is not too long."""
    text = " ".join(pieces)
    if len(text) > MAX_TEXT:
        raise TooMany(MAX_TEXT)
    return text


def write_word(letters, word):
    """The text of a word."""
    check_words(letters, (word,))
    return word_text(word)


def read_word(letters, text):
    """The word that a text without blanks tells."""
    check_letters(letters)
    check_text(text)
    wrong = first_wrong(letters, text)
    if wrong is not None:
        raise ParseError(wrong)
    return word_told(text)


def write_turner(turner):
    """The text of a turner."""
    check_turner(turner)
    return written(["turner"] + [word_text(image) for image in turner.images])


def write_web(web):
    """The text of a web."""
    check_web(web)
    return written(["web"] + [pair_text(pair) for pair in web.ties])


def write_stand(stand):
    """The text of a stand."""
    check_stand(stand)
    ties, words, images = stand.web.ties, stand.words, stand.images
    return written(["stand"] + [tie_text(pair, word, image) for pair, word, image in zip(ties, words, images)])


def piece_told(head, text):
    """What a piece behind the first one tells, None if it cannot stand there."""
    if head == "turner":
        return word_piece(text)
    return pair_piece(text) if head == "web" else tie_piece(text)


def parts_read(text, heads):
    """The pair of the first piece, which is one of the told ones, and of the tuple of what the others tell."""
    check_text(text)
    pieces = pieces_of(text)
    if pieces != [] and pieces[0][1] not in heads:
        raise ParseError(pieces[0][0])
    if len(pieces) < 2:
        raise ParseError(len(text))
    head = pieces[0][1]
    parts = []
    for index, piece in pieces[1:]:
        told = piece_told(head, piece)
        if told is None:
            raise ParseError(index)
        parts.append(told)
    return head, tuple(parts)


def thing_told(head, parts):
    """The turner, the web or the stand that right pieces tell."""
    if head == "turner":
        return Turner(parts)
    if head == "web":
        return Web(parts)
    ties, words, images = [tuple([part[place] for part in parts]) for place in range(3)]
    return Stand(ties, words, images)


def read_turner(text):
    """The turner that a text tells."""
    head, parts = parts_read(text, ("turner",))
    return thing_told(head, parts)


def read_web(text):
    """The web that a text tells."""
    head, parts = parts_read(text, ("web",))
    return thing_told(head, parts)


def read_stand(text):
    """The stand that a text tells."""
    head, parts = parts_read(text, ("stand",))
    return thing_told(head, parts)


def read(text):
    """The turner, the web or the stand that a text tells, as its first piece says."""
    head, parts = parts_read(text, ("turner", "web", "stand"))
    return thing_told(head, parts)
