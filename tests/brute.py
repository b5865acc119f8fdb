"""Slow and plain ways to the answers, that share nothing with the program."""

from itertools import product


def entries(letters):
    """All letters and contraries, ascending."""
    return [entry for entry in range(-letters, letters + 1) if entry]


def rows(letters, length):
    """All rows of letters and contraries, ascending."""
    return list(product(entries(letters), repeat=length))


def is_bare(row):
    """Whether no two neighbours add up to 0."""
    return all(one + other for one, other in zip(row, row[1:]))


def words(letters, length):
    """All words of a length, ascending."""
    return [row for row in rows(letters, length) if is_bare(row)]


def words_to(letters, most):
    """All words of at most a length."""
    return [word for length in range(most + 1) for word in words(letters, length)]


def struck(row):
    """The bare form, by striking out the first two opposite neighbours again and again."""
    place = 0
    while place < len(row) - 1:
        if row[place] + row[place + 1] == 0:
            row = row[:place] + row[place + 2:]
            place = 0
        else:
            place += 1
    return row


def times(*factors):
    """The product of words."""
    return struck(sum(factors, ()))


def back(word):
    """The contrary of a word."""
    return tuple(-entry for entry in reversed(word))


def raised(word, many):
    """The power of a word."""
    return times(*[word if many > 0 else back(word)] * abs(many))


def rotations(row):
    """All rotations of a row."""
    return [row[place:] + row[:place] for place in range(len(row))] or [()]


def core_of(word):
    """The core of a word, by taking opposite first and last entries off."""
    while len(word) > 1 and word[0] + word[-1] == 0:
        word = word[1:-1]
    return word
