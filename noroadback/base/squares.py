"""Square tables of numbers: tuples of rows, as many as each row has entries. Nothing is checked here."""


def unit(size):
    """The unit table of so many rows."""
    return tuple([tuple([1 if column == row else 0 for column in range(size)]) for row in range(size)])


def row_behind(row, table):
    """A row of numbers times a table: the sums of the rows of the table, each so many times as the number tells."""
    return tuple([sum([many * line[column] for many, line in zip(row, table)]) for column in range(len(table))])


def square_product(one, other):
    """The product of two tables of one size."""
    return tuple([row_behind(row, other) for row in one])


def square_power(table, many):
    """The power of a table, for a number from 0 on."""
    power = unit(len(table))
    bits = [many >> place & 1 for place in range(many.bit_length())]
    # The greatest bit comes first, so that the factors beside the squares are the table itself, with short numbers.
    for bit in bits[::-1]:
        power = square_product(power, power)
        if bit == 1:
            power = square_product(power, table)
    return power
