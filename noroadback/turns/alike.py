"""Turners that turn all words by one word, turners that are alike, and orders."""

from noroadback.base.sides import single_rows
from noroadback.base.squares import square_product, unit
from noroadback.base.words import check_words, is_long_word
from noroadback.errors import InvalidOperation, TooMany
from noroadback.turns.images import images_to_power
from noroadback.turns.turners import check_table, check_turner, table_of, turner_made
from noroadback.turns.turning import rows_turned, word_by

MOST_IN_ALL = 2000
MOST_SIDE = 5
MOST_ORDER = 12


def check_turners(one, other):
    """Raise the error of what are no two turners of equally many letters."""
    check_turner(one)
    check_turner(other)
    if one.letters != other.letters:
        raise InvalidOperation("turners of unlike numbers of letters")


def turned_by(letters, word):
    """The turner that turns each word by this one."""
    check_words(letters, (word,))
    return turner_made(rows_turned(single_rows(letters), word))


def inner_word(turner):
    """The word by which a turner turns each word, None if there is none."""
    check_turner(turner)
    return word_by(single_rows(turner.letters), turner.images)


def alike_word(one, other):
    """The word by which the second turner is alike to the first one, None if there is none."""
    check_turners(one, other)
    return word_by(one.images, other.images)


def is_alike_word(one, other, value):
    """Whether the value is a word by which the second turner is alike to the first one."""
    check_turners(one, other)
    return is_long_word(one.letters, value) and rows_turned(one.images, value) == other.images


def order_of(table):
    """The least power from 1 on of a table of at most five rows that is the unit table, None if there is none."""
    goal = unit(len(table))
    power = table
    for many in range(1, MOST_ORDER + 1):
        if power == goal:
            return many
        power = square_product(power, table)
    return None


def table_order(table):
    """The order of a table, None if it has none."""
    check_table(table)
    return order_of(table)


def power_to_order(turner):
    """The pair of the order of the table of a turner and of the images of this power, None if there is no order."""
    many = order_of(table_of(turner))
    if many is None:
        return None
    images = images_to_power(turner.images, many, MOST_IN_ALL)
    if images is None:
        raise TooMany(MOST_IN_ALL)
    return many, images


def turner_order(turner):
    """The pair of the least power that turns all words by one word, and of this word, None if there is none."""
    told = power_to_order(turner)
    if told is None:
        return None
    many, images = told
    word = word_by(single_rows(len(images)), images)
    return None if word is None else (many, word)


def exact_order(turner):
    """The least power from 1 on that is the idle turner, None if there is none."""
    told = power_to_order(turner)
    if told is None or told[1] != single_rows(len(told[1])):
        return None
    return told[0]
