"""Square tables of numbers: tuples of rows, as many as each row has entries. Nothing is checked here."""


def unit(size):
    """The unit table of so many rows."""
    return tuple([tuple([1 if column == row else 0 for column in range(size)]) for row in range(size)])


def row_behind(row, table):
    """A row of numbers times a table: the sums of the rows of the table, each so many times as the number tells."""
    return tuple([sum([many * line[column] for many, line in zip(row, table)]) for column in range(len(table))])


def square_product(one, other):
    """The product of two tables of one size."""
    return tuple([row_behind(row, other) for row in one])
