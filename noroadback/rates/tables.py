"""Count tables: how often ties stand in images, what such a table hangs together by, and its rate."""

from math import gcd

from noroadback.base.fractions import is_fraction, is_passed_fraction
from noroadback.base.integers import integer_power, is_integer, is_passed, is_within
from noroadback.base.squares import row_behind, square_product
from noroadback.errors import InvalidNumber, InvalidOperation, InvalidTable, Refused
from noroadback.rates.powers import power_by
from noroadback.rates.roots import FIRST_BITS, compare_greatest, compare_root, root_above
from noroadback.webs.stands import check_stand

MAX_TIES = 24
MAX_RAISED = 1000
MAX_FIGURES = 10


def is_count_table(value):
    """Whether the value is a tuple of 1 to 24 rows, tuples of as many integers of at least 0."""
    if not isinstance(value, tuple) or not 1 <= len(value) <= MAX_TIES:
        return False
    if not all([isinstance(row, tuple) and len(row) == len(value) for row in value]):
        return False
    return all([is_passed(entry) and entry >= 0 for row in value for entry in row])


def check_count_table(table):
    """Raise the error of what is no count table."""
    if not is_count_table(table):
        raise InvalidTable("no square table of integers of at least 0, of from 1 to 24 rows")


def check_count_row(table, row):
    """Raise the error of what is no tuple of as many integers as a table has rows."""
    if not isinstance(row, tuple) or len(row) != len(table) or not all([is_passed(entry) for entry in row]):
        raise InvalidTable("no tuple of as many integers as the table has rows")


def check_together(table):
    """Refuse a table that does not hang together."""
    if not does_hang(table):
        raise Refused(("apart",))


def counted(road, size):
    """How often each of so many ties stands in a road, along or back."""
    row = [0] * size
    for tie in road:
        row[abs(tie) - 1] += 1
    return tuple(row)


def counts_in(images):
    """The table that tells how often each tie stands in each image, along or back."""
    return tuple([counted(image, len(images)) for image in images])


def counts(stand):
    """The counts of a stand."""
    check_stand(stand)
    return counts_in(stand.images)


def weights_behind(table, row):
    """The weights of the images, for weights of the ties."""
    return tuple([sum([many * weight for many, weight in zip(line, row)]) for line in table])


def row_led(table, row):
    """The row times the table."""
    check_count_table(table)
    check_count_row(table, row)
    return row_behind(row, table)


def weights_led(table, row):
    """The weights of the images, for weights of the ties."""
    check_count_table(table)
    check_count_row(table, row)
    return weights_behind(table, row)


def reached_from(table, place):
    """The dict, with True for each, of the places that a place reaches."""
    reached = {}
    waiting = [place]
    while waiting:
        row = table[waiting.pop()]
        for goal, entry in enumerate(row):
            if entry > 0 and goal not in reached:
                reached[goal] = True
                waiting.append(goal)
    return reached


def does_hang(table):
    """Whether each place reaches each place."""
    return all([len(reached_from(table, place)) == len(table) for place in range(len(table))])


def hangs_together(table):
    """Whether a table hangs together."""
    check_count_table(table)
    return does_hang(table)


def pieces_of(table):
    """The ascending tuple of the pieces of a table."""
    check_count_table(table)
    reached = [reached_from(table, place) for place in range(len(table))]
    pieces = []
    for place in range(len(table)):
        both = [goal for goal in reached[place] if place in reached[goal]]
        piece = [goal for goal in range(len(table)) if goal == place or goal in both]
        if piece[0] == place:
            pieces.append(tuple(piece))
    return tuple(pieces)


def steps_from(table):
    """A dict from each place to the least number of steps in which the place 0 reaches it, 0 for itself."""
    steps = {0: 0}
    waiting = [0]
    done = 0
    while done < len(waiting):
        place = waiting[done]
        done += 1
        for goal, entry in enumerate(table[place]):
            if entry > 0 and goal not in steps:
                steps[goal] = steps[place] + 1
                waiting.append(goal)
    return steps


def beat(table):
    """The beat of a table that hangs together."""
    check_count_table(table)
    check_together(table)
    steps = steps_from(table)
    found = 0
    for place, row in enumerate(table):
        for goal, entry in enumerate(row):
            # Ways from the place 0 to a place are longer than the shortest one by multiples of the beat.
            if entry > 0:
                found = gcd(found, steps[place] + 1 - steps[goal])
    return found


def table_power(table, many):
    """The power of a table."""
    check_count_table(table)
    if not is_within(many, 0, MAX_RAISED):
        raise InvalidNumber(many)
    return power_by(table, poly_of(table), many)


def poly_of(table):
    """The own polynomial, a tuple of integers, the lowest power first."""
    size = len(table)
    numbers = [1]
    # These tables are the numbers, from the highest power on, of the table of cofactors of z less the table.
    power = table
    for many in range(1, size + 1):
        number = -sum([power[place][place] for place in range(size)]) // many
        numbers.append(number)
        shifted = tuple([
            tuple([entry + number if place == column else entry for column, entry in enumerate(row)])
            for place, row in enumerate(power)
        ])
        power = square_product(table, shifted)
    return tuple(numbers[::-1])


def own_poly(table):
    """The own polynomial of a table."""
    check_count_table(table)
    return poly_of(table)


def most_of(table):
    """The greatest sum of a row, which the rate is not above."""
    return max([sum(row) for row in table])


def cofactor_sums(table, poly, top, bottom):
    """A row that is led to a fraction times itself, less one number at all places: the own polynomial's value there.

    It is the sum of the columns of the table of cofactors of the fraction less the table, but for a factor. If the
    table hangs together and the fraction is not below the rate, all integers are above 0.
    """
    size = len(table)
    column = (1,) * size
    row = [0] * size
    factor = 1
    for number in poly[size - 1::-1]:
        row = [entry * top + factor * added for entry, added in zip(row, column)]
        column = tuple([entry + number for entry in weights_behind(table, column)])
        factor = factor * bottom
    divisor = 0
    for entry in row:
        divisor = gcd(divisor, entry)
    return tuple([entry // divisor for entry in row])


def does_show(table, fraction, sort, row):
    """Whether a row of integers above 0 is led to at most, or to at least, so many times itself."""
    top, bottom = fraction
    pairs = [(bottom * led, top * entry) for led, entry in zip(weights_behind(table, row), row)]
    if sort == "below":
        return all([led <= entry for led, entry in pairs])
    return all([led >= entry for led, entry in pairs])


def check_rate_fraction(table, fraction):
    """Raise the errors of what no paper about the rate can be asked for."""
    check_count_table(table)
    if not is_passed_fraction(fraction) or fraction[0] <= 0:
        raise InvalidOperation("no fraction above 0")
    check_together(table)


def rate_paper(table, fraction):
    """A paper that shows that the rate is at most, or at least, a fraction."""
    check_rate_fraction(table, fraction)
    poly = poly_of(table)
    top, bottom = fraction
    if compare_root(poly, top, bottom) <= 0:
        return ("below", cofactor_sums(table, poly, top, bottom))
    bits = FIRST_BITS
    row = (1,) * len(table)
    # The nearer a number above the rate comes to it, the nearer the row is led to the rate times itself.
    while not does_show(table, fraction, "above", row):
        row = cofactor_sums(table, poly, root_above(poly, most_of(table), bits), 1 << bits)
        bits = 2 * bits
    return ("above", row)


def is_rate_paper(table, fraction, value):
    """Whether the value is a paper as of rate_paper."""
    check_rate_fraction(table, fraction)
    if not isinstance(value, tuple) or len(value) != 2 or value[0] not in ("below", "above"):
        return False
    row = value[1]
    if not isinstance(row, tuple) or len(row) != len(table):
        return False
    return all([is_integer(entry) and entry > 0 for entry in row]) and does_show(table, fraction, value[0], row)


def compare_rates(one, other):
    """-1, 0 or 1, as the first rate is below, equal to or above the second one."""
    check_count_table(one)
    check_count_table(other)
    return compare_tables(one, other)


def compare_tables(one, other):
    """-1, 0 or 1, as the first rate is below, equal to or above the second one, for tables of any size."""
    return compare_greatest(poly_of(one), poly_of(other), max(most_of(one), most_of(other)))


def told_fraction(top, bottom):
    """The fraction that two integers of any length make, the second one above 0."""
    divisor = gcd(top, bottom)
    return top // divisor, bottom // divisor


def check_figures(figures):
    """Raise the error of a wrong number of figures."""
    if not is_within(figures, 0, MAX_FIGURES):
        raise InvalidNumber(figures)


def rate_bounds(table, figures):
    """Two fractions with the rate between them, as near to one another as so many figures behind the point."""
    check_count_table(table)
    check_figures(figures)
    poly = poly_of(table)
    bits = integer_power(10, figures).bit_length()
    above = root_above(poly, most_of(table), bits)
    below = above if compare_root(poly, above, 1 << bits) == 0 else above - 1
    return told_fraction(below, 1 << bits), told_fraction(above, 1 << bits)


def is_rate_bounds(table, figures, value):
    """Whether the value is a pair of fractions as of rate_bounds."""
    check_count_table(table)
    check_figures(figures)
    if not isinstance(value, tuple) or len(value) != 2 or not all([is_fraction(bound) for bound in value]):
        return False
    (low, low_part), (high, high_part) = value
    if (high * low_part - low * high_part) * integer_power(10, figures) > high_part * low_part:
        return False
    poly = poly_of(table)
    return compare_root(poly, low, low_part) >= 0 and compare_root(poly, high, high_part) <= 0


def is_rate(table, fraction):
    """Whether the rate is a fraction."""
    check_count_table(table)
    if not is_passed_fraction(fraction) or fraction[0] < 0:
        raise InvalidOperation("no fraction from 0 on")
    return compare_root(poly_of(table), fraction[0], fraction[1]) == 0
