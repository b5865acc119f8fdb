"""Rims: the borders of surfaces that are made of bands along letters; twists, and turners that keep rims."""

from noroadback.base.integers import is_integer, is_within
from noroadback.base.rows import opposite, repeated, ring_of
from noroadback.base.sides import row_of, sides_of, single_rows, told_sides
from noroadback.base.words import check_letters, entries_of
from noroadback.errors import InvalidNumber, InvalidOperation, InvalidOrder
from noroadback.search.fixed import led_ring
from noroadback.turns.turners import check_turner, turner_made

MOST_TWISTS = 8
MOST_TIMES = 3


def is_order_of(letters, value):
    """Whether the value is a tuple that has each letter and each contrary once."""
    if not isinstance(value, tuple) or not all([is_integer(entry) for entry in value]):
        return False
    return sorted(value) == entries_of(letters)


def is_order(letters, value):
    """Whether the value is an order of the letters."""
    check_letters(letters)
    return is_order_of(letters, value)


def check_order(letters, order):
    """Raise the errors of a wrong number of letters, or of what is no order of them."""
    check_letters(letters)
    if not is_order_of(letters, order):
        raise InvalidOrder("no tuple that has each letter and each contrary once")


def is_entry(letters, value):
    """Whether the value is a letter or a contrary."""
    return is_within(value, -letters, letters) and value != 0


def behind_in(order, entry):
    """The entry that comes next behind an entry in a round."""
    return order[(order.index(entry) + 1) % len(order)]


def rim_from(order, entry):
    """The rim in which an entry is, begun with it."""
    row = [entry]
    following = behind_in(order, -entry)
    while following != entry:
        row.append(following)
        following = behind_in(order, -following)
    return tuple(row)


def rims_of(order):
    """The ascending list of the rings of all rims."""
    found = {ring_of(rim_from(order, entry)): True for entry in order}
    return sorted(list(found))


def rims(letters, order):
    """The ascending tuple of the rings of all rims."""
    check_order(letters, order)
    return tuple(rims_of(order))


def handle_number(letters, order):
    """The number of handles of the surface."""
    check_order(letters, order)
    return (letters + 1 - len(rims_of(order))) // 2


def sides_entries(order, entry):
    """The entries behind an entry and ahead of its contrary in the round, a tuple."""
    start = order.index(entry)
    row = order[start + 1:] + order[:start]
    return row[:row.index(-entry)]


def twist_images(letters, order, entry, times):
    """The images of a power of the twist along an entry."""
    between = sides_entries(order, entry)
    found = []
    for letter in range(1, letters + 1):
        # The twist leads its own letter to itself, so that powers are told by rows of it.
        ahead = repeated((entry,), times) if letter in between else ()
        behind = repeated((entry,), -times) if -letter in between else ()
        found.append((letter,) if letter == abs(entry) else ahead + (letter,) + behind)
    return tuple(found)


def twist(letters, order, letter):
    """The twist along a letter or a contrary."""
    check_order(letters, order)
    if not is_entry(letters, letter):
        raise InvalidNumber(letter)
    return turner_made(twist_images(letters, order, letter, 1))


def is_twist_row(letters, value):
    """Whether the value is a tuple of at most eight pairs of a letter or a contrary, and of an integer from -3 to 3."""
    if not isinstance(value, tuple) or len(value) > MOST_TWISTS:
        return False
    if not all([isinstance(pair, tuple) and len(pair) == 2 for pair in value]):
        return False
    return all([is_entry(letters, letter) and is_within(times, -MOST_TIMES, MOST_TIMES) for letter, times in value])


def sides_behind(sides, images):
    """The sides of the product of the turner with some sides and of that with some images."""
    product_sides = {}
    for letter, image in enumerate(images, start=1):
        product_sides[letter], product_sides[-letter] = told_sides(sides, image, None)
    return product_sides


def twisted(letters, order, row):
    """The product of powers of twists, the first one outermost, with images of any lengths."""
    check_order(letters, order)
    if not is_twist_row(letters, row):
        raise InvalidOperation("no tuple of at most eight pairs of a letter and of an integer from -3 to 3")
    sides = sides_of(single_rows(letters))
    for letter, times in row:
        sides = sides_behind(sides, twist_images(letters, order, letter, times))
    return turner_made(tuple([row_of(sides[letter]) for letter in range(1, letters + 1)]))


def check_kept(letters, order, turner):
    """Raise the errors of what cannot be asked whether a turner keeps rims."""
    check_order(letters, order)
    check_turner(turner)
    if turner.letters != letters:
        raise InvalidOperation("a turner of another number of letters")


def goals_of(letters, order, turner, sign):
    """The list that has for each rim the index of the one to which, or to whose contrary, it is led, None for none."""
    found = rims_of(order)
    goals = {ring_of(ring if sign == 1 else opposite(ring)): index for index, ring in enumerate(found)}
    sides = sides_of(turner.images)
    return [goals.get(led_ring(sides, ring, 2 * letters)) for ring in found]


def rims_paper(letters, order, turner):
    """A paper that shows that a turner keeps the rims, or that it does not."""
    check_kept(letters, order, turner)
    along, back = goals_of(letters, order, turner, 1), goals_of(letters, order, turner, -1)
    if None not in along:
        return ("kept", 1, tuple(along))
    if None not in back:
        return ("kept", -1, tuple(back))
    return ("moved", along.index(None), back.index(None))


def is_rims_paper(letters, order, turner, value):
    """Whether the value is a paper as of rims_paper."""
    check_kept(letters, order, turner)
    if not isinstance(value, tuple) or len(value) != 3:
        return False
    if value[0] == "kept":
        return is_kept_paper(letters, order, turner, value)
    if value[0] != "moved" or not all([is_within(index, 0, len(rims_of(order)) - 1) for index in value[1:]]):
        return False
    along, back = goals_of(letters, order, turner, 1), goals_of(letters, order, turner, -1)
    return along[value[1]] is None and back[value[2]] is None


def is_kept_paper(letters, order, turner, value):
    """Whether a triple tells a sign with which a turner keeps the rims, and where it leads them."""
    _, sign, told = value
    if not is_within(sign, -1, 1) or sign == 0 or not isinstance(told, tuple):
        return False
    if not all([is_integer(index) for index in told]):
        return False
    return list(told) == goals_of(letters, order, turner, sign)
