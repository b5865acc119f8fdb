"""Turners of two letters: letters of bases, kinds, and turners that lead one turner to another one."""

from math import gcd

from noroadback.base.integers import is_integer, is_within
from noroadback.base.rows import opposite, ring_of
from noroadback.base.squares import row_behind, square_product
from noroadback.base.words import is_long_word
from noroadback.errors import InvalidNumber, InvalidOperation, InvalidTable, Refused, TooMany
from noroadback.turns.alike import order_of
from noroadback.turns.forms import cross, form_of, kept_row, round_of_quotients, trace_of, undone_square
from noroadback.turns.turners import Turner, check_turner, signs_in, table_of, turner_made

MAX_ENTRY = 60
MOST_IN_ALL = 40


def check_two(*turners):
    """Raise the error of the first value that is no turner, or of the first turner of another number of letters."""
    for turner in turners:
        check_turner(turner)
    for turner in turners:
        if turner.letters != 2:
            raise InvalidOperation("no turner of two letters")


def base_row(first, second):
    """A word that is a letter of a base, with these sums of signs, which have no common divisor; a core."""
    one = 1 if first > 0 else -1
    two = 2 if second > 0 else -2
    size = abs(first) + abs(second)
    # The entries of the second letter are laid among the others as evenly as can be.
    steps = [(place + 1) * abs(second) // size - place * abs(second) // size for place in range(size)]
    return tuple([two if step == 1 else one for step in steps])


def base_ring(first, second):
    """The ring of the letters of bases with these sums of signs."""
    for number in (first, second):
        if not is_within(number, -MAX_ENTRY, MAX_ENTRY):
            raise InvalidNumber(number)
    if gcd(first, second) != 1:
        raise InvalidOperation("no integers without a common divisor above 1")
    return ring_of(base_row(first, second))


def sums_of(word):
    """The sums of the signs of the letters 1 and 2 in a word."""
    return (signs_in(word, 1), signs_in(word, 2))


def is_base_letter(value):
    """Whether the value is a word of two letters that make all with some other word."""
    if not is_long_word(2, value):
        return False
    first, second = sums_of(value)
    return gcd(first, second) == 1 and ring_of(value) == ring_of(base_row(first, second))


def steps_to_letters(rows):
    """Pairs (goal, piece) of indices: two rows of integers from 0 on, taken off one another so, come to single ones.

    Their determinant is 1 or -1. The list of the two rows is changed.
    """
    steps = []
    while sum(rows[0]) + sum(rows[1]) > 2:
        goal = 0 if sum(rows[0]) > sum(rows[1]) else 1
        piece = 1 - goal
        rows[goal] = (rows[goal][0] - rows[piece][0], rows[goal][1] - rows[piece][1])
        steps.append((goal, piece))
    return steps


def images_of_table(table):
    """Images of a turner with a table of two rows with the determinant 1 or -1, as long as its integers tell."""
    # With the determinant 1 or -1, both rows have integers of one sign, or both do when the second column is opposite.
    second = 2 if all([row[0] * row[1] >= 0 for row in table]) else -2
    rows = [(abs(row[0]), abs(row[1])) for row in table]
    steps = steps_to_letters(rows)
    images = [(1,) if row == (1, 0) else (second,) for row in rows]
    for goal, piece in steps[::-1]:
        images[goal] = images[goal] + images[piece]
    return tuple([image if sums_of(image) == row else opposite(image) for image, row in zip(images, table)])


def of_table(table):
    """A turner with a table of two rows."""
    if not is_small_table(table):
        raise InvalidTable("no table of two rows of integers from -60 to 60")
    if abs(cross(table[0], table[1])) != 1:
        raise Refused(("determinant",))
    return turner_made(images_of_table(table))


def is_small_table(value):
    """Whether the value is a tuple of two tuples of two integers from -60 to 60."""
    if not isinstance(value, tuple) or len(value) != 2:
        return False
    if not all([isinstance(row, tuple) and len(row) == 2 for row in value]):
        return False
    return all([is_within(entry, -MAX_ENTRY, MAX_ENTRY) for row in value for entry in row])


def kind_of(table):
    """The word that tells the kind of the turners with a table, and the order, the sign, or the numbers of the kind."""
    order = order_of(table)
    if order is not None:
        return "round", order
    trace, sign = trace_of(table), cross(table[0], table[1])
    if sign == 1 and abs(trace) == 2:
        return "kept", trace // 2
    return "grows", (sign, -trace, 1)


def two_kind(turner):
    """The kind of a turner of two letters."""
    check_two(turner)
    table = table_of(turner)
    name, told = kind_of(table)
    if name == "kept":
        first, second = kept_row(table, told)
        return name, ring_of(base_row(first, second))
    return name, told


def is_two_kind(turner, value):
    """Whether the value is the kind of a turner of two letters."""
    check_two(turner)
    table = table_of(turner)
    name, told = kind_of(table)
    if not isinstance(value, tuple) or len(value) != 2 or value[0] != name:
        return False
    if name == "round":
        return is_integer(value[1]) and value[1] == told
    if name == "grows":
        numbers = value[1]
        return isinstance(numbers, tuple) and all([is_integer(number) for number in numbers]) and numbers == told
    if not is_base_letter(value[1]):
        return False
    first, second = sums_of(value[1])
    return row_behind((first, second), table) == (told * first, told * second)


def quotient_round(turner):
    """The round of quotients of a turner of two letters that grows."""
    check_two(turner)
    table = table_of(turner)
    if kind_of(table)[0] != "grows":
        raise Refused(("kind",))
    return round_of_quotients(table)


def size_of(table):
    """The sum of the sizes of all integers of a table."""
    return sum([abs(entry) for row in table for entry in row])


def least_behind(one, factor):
    """The least product of a table and of powers of a factor."""
    best = one
    for step in (factor, undone_square(factor)):
        following = square_product(best, step)
        while size_of(following) < size_of(best):
            best = following
            following = square_product(best, step)
    return best


def two_alike(one, other):
    """A turner of two letters that leads one turner to another one, None if there is none."""
    check_two(one, other)
    if one.length > MOST_IN_ALL or other.length > MOST_IN_ALL:
        raise TooMany(MOST_IN_ALL)
    goal = table_of(other)
    first, first_by = form_of(table_of(one))
    second, second_by = form_of(goal)
    if first != second:
        return None
    # What comes behind it by the table of the other turner leads to it, too, and can be shorter.
    table = least_behind(square_product(undone_square(first_by), second_by), goal)
    return turner_made(images_of_table(table))


def is_two_alike(one, other, value):
    """Whether the value is a turner of two letters that leads one turner to another one."""
    check_two(one, other)
    if not isinstance(value, Turner) or value.letters != 2:
        return False
    table = table_of(value)
    return square_product(table_of(one), table) == square_product(table, table_of(other))


def commutator_sign(turner):
    """1 or -1, as the word (1, 2, -1, -2) is led to a word alike to it, or to its contrary."""
    check_two(turner)
    table = table_of(turner)
    return cross(table[0], table[1])
