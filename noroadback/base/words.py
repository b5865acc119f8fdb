"""Words: tuples of letters and contraries in which none stands beside its opposite."""

from noroadback.base.integers import integer_power, is_integer, is_within
from noroadback.base.rows import is_reduced, is_repeated, opposite, product_of, reduced, repeated, root_of
from noroadback.errors import InvalidNumber, InvalidWord, Refused, TooMany

MAX_LETTERS = 5
MAX_WORD = 200
MAX_ROW = 400
MOST_POWER = 50
MOST_LISTED = 6
MOST_MULTIPLIED = 50
MOST_NUMBERED = 1000


def check_letters(letters):
    """Raise the error of a wrong number of letters."""
    if not is_within(letters, 1, MAX_LETTERS):
        raise InvalidNumber(letters)


def check_word(letters, word):
    """Raise the error of what is no word of the letters."""
    if not is_bare_row(letters, word, MAX_WORD):
        raise InvalidWord("no word of the letters, with at most 200 entries")


def check_words(letters, words):
    """Raise the error of a wrong number of letters, or of the first value that is no word of them."""
    check_letters(letters)
    for word in words:
        check_word(letters, word)


def is_row(letters, value, most):
    """Whether the value is a tuple of at most so many letters and contraries."""
    if not isinstance(value, tuple) or len(value) > most:
        return False
    return all([is_integer(entry) and 1 <= abs(entry) <= letters for entry in value])


def is_bare_row(letters, value, most):
    """Whether the value is a word of the letters with at most so many entries."""
    return is_row(letters, value, most) and is_reduced(value)


def is_long_word(letters, value):
    """Whether the value is a word of the letters, of any length."""
    return isinstance(value, tuple) and is_bare_row(letters, value, len(value))


def is_word(letters, value):
    """Whether the value is a word of the letters with at most 200 entries."""
    check_letters(letters)
    return is_bare_row(letters, value, MAX_WORD)


def bare(letters, row):
    """The bare form of a row of letters and contraries."""
    check_letters(letters)
    if not is_row(letters, row, MAX_ROW):
        raise InvalidWord("no row of letters and contraries, with at most 400 entries")
    return reduced(row)


def product(letters, *words):
    """The product of any number of words, perhaps of more than 200 entries."""
    check_words(letters, words)
    if len(words) > MOST_MULTIPLIED:
        raise TooMany(MOST_MULTIPLIED)
    return product_of(words)


def contrary(letters, word):
    """The word with which the product is ()."""
    check_words(letters, (word,))
    return opposite(word)


def power(letters, word, many):
    """The product of so many equal words, or contraries, perhaps of more than 200 entries."""
    check_words(letters, (word,))
    if not is_within(many, -MOST_POWER, MOST_POWER):
        raise InvalidNumber(many)
    return repeated(word, many)


def root(letters, word):
    """The pair (root, exponent) of a word other than ()."""
    check_words(letters, (word,))
    if word == ():
        raise Refused(("empty",))
    return root_of(word)


def common_root(letters, one, other):
    """A paper that shows that two words are powers of one word, or that they are not."""
    check_words(letters, (one, other))
    first, second = product_of((one, other)), product_of((other, one))
    if first != second:
        return ("unlike", first, second)
    if one == () and other == ():
        return ("root", (1,), 0, 0)
    base = root_of(other)[0] if one == () else root_of(one)[0]
    return ("root", base, exponent_of(base, one), exponent_of(base, other))


def exponent_of(base, word):
    """The exponent of a power of a word that is its own root."""
    if word == ():
        return 0
    found, many = root_of(word)
    return many if found == base else -many


def is_common_root(letters, one, other, value):
    """Whether the value is a paper as of common_root."""
    check_words(letters, (one, other))
    if not isinstance(value, tuple) or value == ():
        return False
    if value[0] == "root":
        return is_root_paper(letters, one, other, value)
    return value[0] == "unlike" and is_unlike_paper(letters, one, other, value)


def is_root_paper(letters, one, other, value):
    """Whether a tuple tells a word, and exponents with which two words are powers of it."""
    if len(value) != 4 or not is_bare_row(letters, value[1], MAX_WORD):
        return False
    if not is_integer(value[2]) or not is_integer(value[3]):
        return False
    return is_repeated(one, value[1], value[2]) and is_repeated(other, value[1], value[3])


def is_unlike_paper(letters, one, other, value):
    """Whether a tuple tells both products of two words, and these are not equal."""
    # Rows are asked for first, since a row with True in the place of 1 is equal to one with 1.
    if len(value) != 3 or not all([is_row(letters, row, 2 * MAX_WORD) for row in value[1:]]):
        return False
    first, second = product_of((one, other)), product_of((other, one))
    return first != second and value[1] == first and value[2] == second


def entries_of(letters):
    """The ascending list of all letters and contraries."""
    return [entry for entry in range(-letters, letters + 1) if entry != 0]


def longer_words(letters, words):
    """The words that are by one entry longer than some words and begin with them, in their sequence."""
    entries = entries_of(letters)
    return [word + (entry,) for word in words for entry in entries if word == () or word[-1] != -entry]


def words_of(letters, length):
    """All words of a length, ascending."""
    check_letters(letters)
    if not is_within(length, 0, MOST_LISTED):
        raise InvalidNumber(length)
    if length == 0:
        yield ()
        return
    begun = [()]
    for _ in range(length - 1):
        begun = longer_words(letters, begun)
    # The last entries are put on word by word: the whole list would be long.
    for word in begun:
        yield from longer_words(letters, [word])


def word_number(letters, length):
    """The number of all words of a length."""
    check_letters(letters)
    if not is_within(length, 0, MOST_NUMBERED):
        raise InvalidNumber(length)
    if length == 0:
        return 1
    return 2 * letters * integer_power(2 * letters - 1, length - 1)
