"""Rings: least rotations of cores, which tell words up to turning."""

from math import gcd

from noroadback.base.integers import integer_power, is_within
from noroadback.base.rows import ring_of, split_core, turned_row, turning
from noroadback.base.words import MAX_WORD, check_letters, check_words, entries_of, is_bare_row
from noroadback.errors import InvalidNumber

MOST_LISTED = 6
MOST_NUMBERED = 200
MAX_BETWEEN = 400


def core(letters, word):
    """The pair (c, core): c, the core and the contrary of c make the word."""
    check_words(letters, (word,))
    return split_core(word)


def ring(letters, word):
    """The least rotation of the core of a word."""
    check_words(letters, (word,))
    return ring_of(word)


def is_ring(letters, value):
    """Whether the value is a word that is its own ring."""
    check_letters(letters)
    return is_bare_row(letters, value, MAX_WORD) and ring_of(value) == value


def turned(letters, word, by):
    """A word turned by another one, perhaps of more than 200 entries."""
    check_words(letters, (word, by))
    return turned_row(word, by)


def are_alike(letters, one, other):
    """Whether one of two words is the other one turned."""
    check_words(letters, (one, other))
    return ring_of(one) == ring_of(other)


def between(letters, one, other):
    """A word by which the first word is turned to the second one, None if there is none."""
    check_words(letters, (one, other))
    return turning(one, other)


def is_between(letters, one, other, value):
    """Whether the value is a word, of at most 400 entries, by which one is turned to other."""
    check_words(letters, (one, other))
    if not is_bare_row(letters, value, MAX_BETWEEN):
        return False
    return turned_row(one, value) == other


def longer_necklaces(letters, begun):
    """The beginnings of rings that are by one entry longer than some beginnings, in their sequence.

    A beginning is a pair (row, period): the row is the least of its rotations, or
    can be continued to such a row, and repeats its first entries with this period.
    """
    entries = entries_of(letters)
    longer = []
    for row, period in begun:
        least = row[len(row) - period] if row != () else -letters
        for entry in entries:
            # A lesser entry would begin a lesser rotation.
            if entry < least or (row != () and entry == -row[-1]):
                continue
            longer.append((row + (entry,), period if entry == least else len(row) + 1))
    return longer


def rings_with(letters, length):
    """The ascending list of all rings of a length."""
    begun = [((), 1)]
    for _ in range(length):
        begun = longer_necklaces(letters, begun)
    return [row for row, period in begun if length % period == 0 and (row == () or row[0] != -row[-1])]


def rings_of(letters, length):
    """All rings of a length, ascending."""
    check_letters(letters)
    if not is_within(length, 0, MOST_LISTED):
        raise InvalidNumber(length)
    yield from rings_with(letters, length)


def coprime_number(most):
    """How many integers from 1 to the most one have no common divisor above 1 with it."""
    return len([number for number in range(1, most + 1) if gcd(number, most) == 1])


def core_number(letters, length):
    """The number of all cores of a length from 1 on."""
    both_signs = 2 if length % 2 == 0 else 0
    return integer_power(2 * letters - 1, length) + 1 + (letters - 1) * both_signs


def ring_number(letters, length):
    """The number of all rings of a length."""
    check_letters(letters)
    if not is_within(length, 0, MOST_NUMBERED):
        raise InvalidNumber(length)
    if length == 0:
        return 1
    divisors = [divisor for divisor in range(1, length + 1) if length % divisor == 0]
    counted = [coprime_number(divisor) * core_number(letters, length // divisor) for divisor in divisors]
    return sum(counted) // length
