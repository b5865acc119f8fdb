"""Rows that are all turned by one word. Nothing is checked here, and rows can have any length."""

from noroadback.base.rows import opposite, repeated, root_of, split_core, times, turned_row, turning

# Beginnings tell the power of a root up to this difference: see word_by.
NEAR = (0, 1, -1, 2, -2, 3, -3)


def rows_turned(rows, by):
    """Some rows, each one turned by a word."""
    return tuple([turned_row(row, by) for row in rows])


def begun_power(base, row):
    """How often a row begins with a base, a number below 0 if it begins with its contrary."""
    if row[:len(base)] != base:
        base = opposite(base)
        sign = -1
    else:
        sign = 1
    many = 0
    while row[many * len(base):(many + 1) * len(base)] == base:
        many += 1
    return sign * many


def word_by(ones, others):
    """The word by which the first rows are turned to the other ones, None if there is none; () or None for one row.

    The rows are images of letters under turners, so that the first two ones are not powers of one word.
    """
    if len(ones) == 1:
        return () if ones == others else None
    first = turning(ones[0], others[0])
    if first is None:
        return None
    base = root_of(ones[0])[0]
    head, middle = split_core(base)
    # The word is the first one times a power of the base, which turns the second row so that it begins with so
    # many more bases. Rows that are turned by a base have less than two bases in common with its own
    # powers, so that the numbers are not told to the last one, but nearly.
    goal = turned_row(others[1], times(opposite(head), opposite(first)))
    many = begun_power(middle, goal) - begun_power(middle, turned_row(ones[1], opposite(head)))
    for shift in NEAR:
        by = times(first, repeated(base, many + shift))
        if rows_turned(ones, by) == others:
            return by
    return None
