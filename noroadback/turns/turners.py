"""Turners: words in the place of letters, so that each word comes of just one word."""

from noroadback.base.folding import folded_web, has_all
from noroadback.base.integers import is_passed, is_within
from noroadback.base.sides import sides_of, single_rows, told_row
from noroadback.base.squares import square_product
from noroadback.base.words import MAX_LETTERS, check_letters, check_word, is_bare_row
from noroadback.errors import InvalidNumber, InvalidOperation, InvalidTable, InvalidTurner, TooMany
from noroadback.turns.images import images_behind, images_to_power, images_undone, length_of
from noroadback.turns.single import images_by, is_move

MAX_IMAGE = 200
MAX_MADE = 40000
MOST_POWER = 20


def are_images(value):
    """Whether the value is a tuple of images that can be passed."""
    if not isinstance(value, tuple) or not 1 <= len(value) <= MAX_LETTERS:
        return False
    letters = len(value)
    if not all([is_bare_row(letters, image, MAX_IMAGE) for image in value]):
        return False
    return has_all(letters, folded_web(letters, value))


class Turner:
    """A turner. It never changes."""

    def __init__(self, images):
        if not are_images(images):
            raise InvalidTurner("no tuple of as many words as letters that make all")
        self._images = images

    @classmethod
    def idle(cls, letters):
        """The turner that leads each word to itself."""
        check_letters(letters)
        return cls(single_rows(letters))

    @classmethod
    def of_move(cls, letters, move):
        """The turner of a single move."""
        check_letters(letters)
        if not is_move(letters, move):
            raise InvalidOperation("no single move of so many letters")
        return cls(images_by(letters, (move,), MAX_MADE))

    @property
    def letters(self):
        """The number of letters."""
        return len(self._images)

    @property
    def images(self):
        """What the letters are led to."""
        return self._images

    @property
    def length(self):
        """The sum of the lengths of the images."""
        return length_of(self._images)

    def __call__(self, word):
        """What a word is led to; the result can have any length."""
        check_word(self.letters, word)
        return told_row(sides_of(self._images), word)

    def __mul__(self, other):
        """The product, which leads a word by the other one first."""
        if not isinstance(other, Turner):
            return NotImplemented
        if len(self._images) != len(other._images):
            raise InvalidOperation("turners of unlike numbers of letters")
        return turner_made(images_behind(self._images, other._images, MAX_MADE))

    def undone(self):
        """The turner that undoes this one."""
        return turner_made(images_undone(self._images, MAX_MADE))

    def power(self, many):
        """The power of a number of any sign."""
        if not is_within(many, -MOST_POWER, MOST_POWER):
            raise InvalidNumber(many)
        if many == 0:
            return Turner(single_rows(self.letters))
        images = self._images if many > 0 else images_undone(self._images, MAX_MADE)
        return turner_made(None if images is None else images_to_power(images, abs(many), MAX_MADE))

    def __eq__(self, other):
        """Whether the value is a turner with the same images."""
        return isinstance(other, Turner) and self._images == other._images

    def __str__(self):
        return f"turner of {self.letters} letters, length {self.length}"


def turner_made(images):
    """The turner with images that were made, of any lengths, and so are right; None tells that they are too long."""
    if images is None:
        raise TooMany(MAX_MADE)
    # The class takes short images alone, so that it begins idle here.
    made = Turner(single_rows(len(images)))
    made._images = images
    return made


def check_turner(turner):
    """Raise the error of what is no turner."""
    if not isinstance(turner, Turner):
        raise InvalidTurner("no turner")


def signs_in(word, letter):
    """The number of entries of a word that are the letter, less that of those that are its contrary."""
    return len([entry for entry in word if entry == letter]) - len([entry for entry in word if entry == -letter])


def table_of(turner):
    """The table of a turner: for each image, the sums of the signs of the letters."""
    check_turner(turner)
    letters = range(1, turner.letters + 1)
    return tuple([tuple([signs_in(image, letter) for letter in letters]) for image in turner.images])


def is_table(value):
    """Whether the value is a square table of integers, of from 1 to 5 rows."""
    if not isinstance(value, tuple) or not 1 <= len(value) <= MAX_LETTERS:
        return False
    if not all([isinstance(row, tuple) and len(row) == len(value) for row in value]):
        return False
    return all([is_passed(entry) for row in value for entry in row])


def check_table(table):
    """Raise the error of what is no square table of integers."""
    if not is_table(table):
        raise InvalidTable("no square table of integers, of from 1 to 5 rows")


def table_product(one, other):
    """The product of two tables."""
    check_table(one)
    check_table(other)
    if len(one) != len(other):
        raise InvalidOperation("tables of unlike sizes")
    return square_product(one, other)


def table_determinant(table):
    """The determinant of a table."""
    check_table(table)
    return determinant(table)


def determinant(table):
    """The determinant of a square table, 1 for that without rows."""
    if table == ():
        return 1
    total = 0
    sign = 1
    for place, entry in enumerate(table[0]):
        total = total + sign * entry * determinant(tuple([row[:place] + row[place + 1:] for row in table[1:]]))
        sign = -sign
    return total
