"""Sums of words, and the slopes of words, which are sums."""

from noroadback.base.folding import folded_web, has_all
from noroadback.base.integers import is_passed, is_within
from noroadback.base.lots import are_words
from noroadback.base.rows import times
from noroadback.base.sides import row_of, sides_of, single_rows, told_row
from noroadback.base.words import MAX_WORD, check_letters, check_words, is_bare_row
from noroadback.errors import InvalidNumber, InvalidOperation, InvalidSum, InvalidTable, InvalidWord, TooMany
from noroadback.turns.images import images_undone
from noroadback.turns.turners import MAX_MADE, check_turner

MAX_TERMS = 200
MAX_PAIRS = 4000
MAX_LED = 20000
MOST_ROWS = 6


def are_terms(letters, value):
    """Whether the value is a dict of at most 200 entries from words of the letters to integers."""
    if not isinstance(value, dict) or len(value) > MAX_TERMS:
        return False
    return all([is_bare_row(letters, word, MAX_WORD) and is_passed(many) for word, many in value.items()])


def pairs_of(terms):
    """The pairs (word, integer) of a dict with integers other than 0, words ascending."""
    return tuple([(word, terms[word]) for word in sorted(list(terms)) if terms[word] != 0])


def terms_added(one, other, many):
    """A dict of the terms of some pairs, and of other ones so many times."""
    terms = {word: number for word, number in one}
    for second, added in other:
        terms[second] = terms.get(second, 0) + many * added
    return terms


def terms_behind(factors):
    """A dict of the terms of the sum of all products one * other, for pairs (one, other) of sums told by pairs."""
    terms = {}
    for one, other in factors:
        for first, many in one:
            for second, number in other:
                word = times(first, second)
                terms[word] = terms.get(word, 0) + many * number
    return terms


class Sum:
    """A sum of words, each so many times. It never changes."""

    def __init__(self, letters, terms):
        check_letters(letters)
        if not are_terms(letters, terms):
            raise InvalidSum("no dict of at most 200 entries from words of the letters to integers")
        self._letters = letters
        self._pairs = pairs_of(terms)

    @classmethod
    def word(cls, letters, word):
        """The sum of a word once."""
        check_words(letters, (word,))
        return cls(letters, {word: 1})

    @property
    def letters(self):
        """The number of letters."""
        return self._letters

    @property
    def terms(self):
        """A dict from the words to their integers."""
        return {word: many for word, many in self._pairs}

    def __add__(self, other):
        """The sum of all terms of both."""
        if not isinstance(other, Sum):
            return NotImplemented
        check_same_letters(self._letters, other._letters)
        return sum_made(self._letters, terms_added(self._pairs, other._pairs, 1))

    def __sub__(self, other):
        """The sum of the terms of this one and of the opposite terms of the other one."""
        if not isinstance(other, Sum):
            return NotImplemented
        check_same_letters(self._letters, other._letters)
        return sum_made(self._letters, terms_added(self._pairs, other._pairs, -1))

    def __mul__(self, other):
        """The sum of the products of each word of this one and each word of the other one."""
        if not isinstance(other, Sum):
            return NotImplemented
        check_same_letters(self._letters, other._letters)
        if len(self._pairs) * len(other._pairs) > MAX_PAIRS:
            raise TooMany(MAX_PAIRS)
        return sum_made(self._letters, terms_behind([(self._pairs, other._pairs)]))

    def total(self):
        """The sum of all integers."""
        return sum([many for _, many in self._pairs])

    def led(self, turner):
        """The sum led, word by word, by a turner."""
        check_turner(turner)
        if turner.letters != self._letters:
            raise InvalidOperation("a turner of another number of letters")
        sides = sides_of(turner.images)
        if sum([len(sides[entry]) for word, _ in self._pairs for entry in word]) > MAX_LED:
            raise TooMany(MAX_LED)
        return sum_made(self._letters, {told_row(sides, word): many for word, many in self._pairs})

    def __eq__(self, other):
        """Whether the value is a sum of as many letters with the same terms."""
        return isinstance(other, Sum) and self._letters == other._letters and self._pairs == other._pairs

    def __len__(self):
        """The number of terms."""
        return len(self._pairs)

    def __bool__(self):
        """Whether there are some terms."""
        return bool(self._pairs)

    def __iter__(self):
        """Iterate over the pairs (word, integer), words ascending."""
        return iter(self._pairs)


def sum_made(letters, terms):
    """The sum with terms that were made, of any number and any lengths, and so are right."""
    # The class takes short terms alone, so that it begins without some here.
    made = Sum(letters, {})
    made._pairs = pairs_of(terms)
    return made


def check_same_letters(one, other):
    """Raise the error of sums of two unlike numbers of letters."""
    if one != other:
        raise InvalidSum("sums of unlike numbers of letters")


def check_tuple(letters, words):
    """Raise the error of a wrong number of letters, or of what is no tuple of one to six words of them."""
    check_letters(letters)
    if not are_words(letters, words, 1):
        raise InvalidWord("no tuple of one to six words of the letters")


def slopes_led(letters, led_to, word):
    """The slopes of a word by all letters, a tuple of sums, led by what a dict tells for each letter and contrary."""
    columns = [{} for _ in range(letters)]
    ahead = ()
    for entry in word:
        behind = times(ahead, led_to[entry])
        if entry > 0:
            columns[entry - 1][ahead] = 1
        else:
            columns[-entry - 1][behind] = -1
        ahead = behind
    return tuple([sum_made(letters, terms) for terms in columns])


def table_led(letters, rows, words):
    """The slope table of some words, each sum led by the letters being led to the told rows."""
    led_to = {number: row_of(text) for number, text in sides_of(rows).items()}
    return tuple([slopes_led(letters, led_to, word) for word in words])


def slope(letters, word, letter):
    """The slope of a word by a letter."""
    check_words(letters, (word,))
    if not is_within(letter, 1, letters):
        raise InvalidNumber(letter)
    return table_led(letters, single_rows(letters), (word,))[0][letter - 1]


def slope_table(letters, words):
    """The tuple that has for each word the tuple of its slopes by all letters."""
    check_tuple(letters, words)
    return table_led(letters, single_rows(letters), words)


def are_sums(value):
    """Whether the value is a table of sums of the same letters, with one to six rows and columns."""
    if not isinstance(value, tuple) or not 1 <= len(value) <= MOST_ROWS:
        return False
    if not all([isinstance(row, tuple) and 1 <= len(row) <= MOST_ROWS for row in value]):
        return False
    if not all([isinstance(entry, Sum) for row in value for entry in row]):
        return False
    return all([len(row) == len(value[0]) and entry.letters == value[0][0].letters for row in value for entry in row])


def check_sums(table):
    """Raise the error of what is no table of sums."""
    if not are_sums(table):
        raise InvalidTable("no table of sums of the same letters, with one to six rows and columns")


def sums_product(one, other):
    """The product of two tables of sums, row by column."""
    check_sums(one)
    check_sums(other)
    if len(one[0]) != len(other) or one[0][0].letters != other[0][0].letters:
        raise InvalidOperation("tables of sums that cannot be multiplied")
    for place in range(len(other)):
        most = max([len(row[place]) for row in one])
        if most * max([len(entry) for entry in other[place]]) > MAX_PAIRS:
            raise TooMany(MAX_PAIRS)
    columns = range(len(other[0]))
    return tuple([tuple([entry_of(row, other, column) for column in columns]) for row in one])


def entry_of(row, table, column):
    """The sum of the products of the sums in a row and of those in a column of a table."""
    factors = [(entry._pairs, table[place][column]._pairs) for place, entry in enumerate(row)]
    return sum_made(row[0].letters, terms_behind(factors))


def undone_slopes(letters, words):
    """The table that undoes the slope table of n words, None if they do not make all."""
    check_tuple(letters, words)
    if len(words) != letters:
        raise InvalidOperation("not as many words as letters")
    if not has_all(letters, folded_web(letters, words)):
        return None
    undone = images_undone(words, MAX_MADE)
    if undone is None:
        raise TooMany(MAX_MADE)
    return table_led(letters, words, undone)


def is_undone_slopes(letters, words, value):
    """Whether the value is the table that undoes the slope table of n words."""
    table = undone_slopes(letters, words)
    return table is not None and table == value
