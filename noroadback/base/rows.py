"""Rows of integers in which an integer and its opposite side by side strike each other out.

Words are such rows. Nothing is checked here, and rows can have any length.
"""


def reduced(row):
    """What is left when opposites side by side are struck out, again and again."""
    kept = []
    for entry in row:
        if kept and kept[-1] == -entry:
            kept.pop()
        else:
            kept.append(entry)
    return tuple(kept)


def is_reduced(row):
    """Whether no entry stands beside its opposite."""
    return all([row[place - 1] != -row[place] for place in range(1, len(row))])


def product_of(rows):
    """Some rows, one behind the other, reduced."""
    return reduced([entry for row in rows for entry in row])


def times(one, other):
    """The product of two reduced rows."""
    most = min(len(one), len(other))
    struck = 0
    while struck < most and one[len(one) - 1 - struck] == -other[struck]:
        struck += 1
    return one[:len(one) - struck] + other[struck:]


def do_agree(one, other, first, last):
    """Whether two rows, or texts, have so many entries, and agree in them, told from behind."""
    if last > min(len(one), len(other)):
        return False
    return one[len(one) - last:len(one) - first] == other[len(other) - last:len(other) - first]


def common_end(one, other):
    """How many last entries two rows, or texts, have in common."""
    if not do_agree(one, other, 0, 1):
        return 0
    known = 0
    step = 1
    # Many entries are compared at once: what two long rows have in common can be long.
    while do_agree(one, other, known, known + step):
        known = known + step
        step = 2 * step
    while step > 0:
        if do_agree(one, other, known, known + step):
            known = known + step
        step = step // 2
    return known


def opposite(row):
    """The entries in the other sequence, each one opposite."""
    return tuple([-entry for entry in row[::-1]])


def split_core(row):
    """The pair (head, core) of a reduced row: head, core and the opposite of head make it."""
    size = len(row)
    depth = 0
    while 2 * depth + 1 < size and row[depth] == -row[size - 1 - depth]:
        depth += 1
    return row[:depth], row[depth:size - depth]


def repeated(row, many):
    """The power of a reduced row, for a number of any sign."""
    if many < 0:
        return repeated(opposite(row), -many)
    if many == 0:
        return ()
    head, middle = split_core(row)
    # Copies of the core side by side strike nothing out, so no reducing is needed.
    return head + middle * many + opposite(head)


def is_repeated(row, base, many):
    """Whether a reduced row is the power of another one, for an exponent of any length."""
    if base == ():
        return row == ()
    # A power has at least as many entries as its exponent tells, so that a power
    # for a great exponent need not be made.
    if abs(many) > len(row):
        return False
    return repeated(base, many) == row


def least_period(row):
    """The length of the shortest row that makes this one, not (), when it is repeated."""
    size = len(row)
    period = 1
    while row[:period] * (size // period) != row:
        period += 1
    return period


def root_of(row):
    """The pair (root, exponent) of a reduced row other than ()."""
    head, middle = split_core(row)
    period = least_period(middle)
    return head + middle[:period] + opposite(head), len(middle) // period


def rotated(row, start):
    """The rotation that begins at a place."""
    return row[start:] + row[:start]


def least_start(row):
    """A place at which the least rotation begins, 0 for ()."""
    size = len(row)
    first = 0
    second = 1
    agreed = 0
    # Two places compete. Where the rotations from both differ, the loser and the
    # places behind it, as far as both agreed, cannot begin the least rotation.
    while first < size and second < size and agreed < size:
        one = row[(first + agreed) % size]
        other = row[(second + agreed) % size]
        if one == other:
            agreed += 1
            continue
        if one > other:
            first = first + agreed + 1
        else:
            second = second + agreed + 1
        if first == second:
            second += 1
        agreed = 0
    return min(first, second)


def ring_of(row):
    """The least rotation of the core of a reduced row."""
    middle = split_core(row)[1]
    return rotated(middle, least_start(middle))


def turning(one, other):
    """A row by which one reduced row is turned to another one, None if there is none."""
    if ring_of(one) != ring_of(other):
        return None
    if one == ():
        return ()
    one_head, one_core = split_core(one)
    other_head, other_core = split_core(other)
    # The second core is the rotation of the first one from this place on, which
    # is the first one turned back by what stands ahead of the place.
    place = (least_start(one_core) - least_start(other_core)) % len(one_core)
    return product_of((other_head, opposite(one_core[:place]), opposite(one_head)))


def turned_row(row, by):
    """A reduced row turned by another one."""
    return times(times(by, row), opposite(by))
