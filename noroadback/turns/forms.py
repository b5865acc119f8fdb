"""Tables of two rows with the determinant 1 or -1: what is the same for all tables that are led to one another.

The form of a table T is a pair (K, B) of tables with B T = K B, B having the determinant 1 or -1. Two tables can be
led to one another, by such a table, exactly if K is the same. Nothing is checked here.
"""

from math import gcd, isqrt

from noroadback.base.rows import least_start
from noroadback.base.squares import row_behind, square_product, unit


def trace_of(table):
    """The sum of the entries at equal indices."""
    return table[0][0] + table[1][1]


def cross(one, other):
    """The determinant of the table of two rows."""
    return one[0] * other[1] - one[1] * other[0]


def undone_square(table):
    """The table that undoes a table with the determinant 1 or -1."""
    (first, second), (third, fourth) = table
    sign = cross(table[0], table[1])
    return ((sign * fourth, -sign * second), (-sign * third, sign * first))


def less(table, many):
    """A table less the unit table so many times."""
    return ((table[0][0] - many, table[0][1]), (table[1][0], table[1][1] - many))


def kept_row(table, many):
    """The row without a common divisor that the table leads to itself so many times, for a number that has just one."""
    first, second = less(table, many)
    column = 0 if first[0] != 0 or second[0] != 0 else 1
    row = (second[column], -first[column])
    divisor = gcd(row[0], row[1])
    return (row[0] // divisor, row[1] // divisor)


def row_beside(row):
    """A row that makes, ahead of one without a common divisor, a table with the determinant 1."""
    first, second = row
    # Each of both numbers is the sum of the row's numbers, so many times.
    first_told, second_told = (1, 0), (0, 1)
    while second != 0:
        many = first // second
        first, second = second, first - many * second
        following = (first_told[0] - many * second_told[0], first_told[1] - many * second_told[1])
        first_told, second_told = second_told, following
    return (first * first_told[1], -first * first_told[0])


def quotient(top, bottom, whole):
    """The greatest integer that is not above (top + the root) / bottom, for an irrational root with this whole part."""
    if bottom > 0:
        return (top + whole) // bottom
    return (-top - whole - 1) // -bottom


def quotients_of(table):
    """The pair of the quotients of a table that grows, until they repeat, and of the place from which they do."""
    (first, second), (third, fourth) = table
    square = (first - fourth) * (first - fourth) + 4 * second * third
    whole = isqrt(square)
    sign = 1 if first + fourth > 0 else -1
    # The direction is (top + root) / bottom, the root being that of the square; so is what is left, again and again.
    top = sign * (first - fourth)
    bottom = 2 * sign * second
    places = {}
    quotients = []
    while (top, bottom) not in places:
        places[top, bottom] = len(quotients)
        many = quotient(top, bottom, whole)
        quotients.append(many)
        top = many * bottom - top
        bottom = (square - top * top) // bottom
    return quotients, places[top, bottom]


def round_of_quotients(table):
    """The round of quotients of a table that grows."""
    quotients, start = quotients_of(table)
    row = tuple(quotients[start:])
    least = least_start(row)
    return row[least:] + row[:least]


def form_by(table, by):
    """The form (K, B) of a table, for the told table B."""
    return square_product(square_product(by, table), undone_square(by)), by


def growing_form(table):
    """The form of a table that grows: its direction has a round of quotients alone, begun at the least place."""
    quotients, start = quotients_of(table)
    by = unit(2)
    for many in quotients[:start + least_start(quotients[start:])]:
        by = square_product(((many, 1), (1, 0)), by)
    return form_by(table, by)


def kept_form(table):
    """The form of a table with just one row that is kept, up to its opposite."""
    sign = trace_of(table) // 2
    kept = kept_row(table, sign)
    beside = row_beside(kept)
    if sign * cross(row_behind(beside, table), beside) > 0:
        kept = (-kept[0], -kept[1])
    return form_by(table, (beside, kept))


def mirror_form(table):
    """The form of a table that leads some row to itself and some other one to its opposite."""
    one, other = kept_row(table, 1), kept_row(table, -1)
    if abs(cross(one, other)) == 1:
        return form_by(table, (one, other))
    half = ((one[0] + other[0]) // 2, (one[1] + other[1]) // 2)
    return form_by(table, (half, row_behind(half, table)))


def turning_form(table):
    """The form of a table of the order 3, 4 or 6: some row makes, with the row led, a determinant 1 or -1."""
    one, other = (1, 0), (0, 1)
    # A row (x, y) makes x x first + x y middle + y y last; rows are put together until one makes the least.
    first, middle, last = table[0][1], table[1][1] - table[0][0], -table[1][0]
    if first < 0:
        first, middle, last = -first, -middle, -last
    while abs(first) > 1:
        many = (middle + first) // (2 * first)
        other = (other[0] - many * one[0], other[1] - many * one[1])
        middle, last = middle - 2 * many * first, last - many * middle + many * many * first
        one, other = other, one
        first, last = last, first
    return form_by(table, (one, row_behind(one, table)))


def form_of(table):
    """The form of a table."""
    trace = trace_of(table)
    if cross(table[0], table[1]) == -1:
        return mirror_form(table) if trace == 0 else growing_form(table)
    if table[0][1] == 0 and table[1][0] == 0:
        return table, unit(2)
    if abs(trace) == 2:
        return kept_form(table)
    return turning_form(table) if abs(trace) < 2 else growing_form(table)
