"""Far powers of tables. Nothing is checked here.

A table that is put in the place of z makes its own polynomial 0. So the power k of the table is what the
remainder makes that is left when z to the power k is divided by the polynomial. The remainder has few long
integers, where squares of far powers would be products of many.
"""

from noroadback.base.squares import square_product, unit
from noroadback.rates.roots import divided


def poly_square(poly):
    """The square of a polynomial, the lowest power first."""
    row = [0] * (2 * len(poly) - 1)
    for place, number in enumerate(poly):
        for other, factor in enumerate(poly):
            row[place + other] = row[place + other] + number * factor
    return tuple(row)


def remainder_of_power(poly, many):
    """What is left when the power of z is divided by a polynomial with its highest power once."""
    rest = (1,)
    bits = [many >> place & 1 for place in range(many.bit_length())]
    # The greatest bit comes first: each bit is a square, and 1 is z more.
    for bit in bits[::-1]:
        rest = divided(poly_square(rest), poly)[1]
        if bit == 1:
            rest = divided((0, *rest), poly)[1]
    return rest


def power_by(table, poly, many):
    """The power of a table with an own polynomial."""
    size = len(table)
    total = tuple([(0,) * size for _ in range(size)])
    power = unit(size)
    for number in remainder_of_power(poly, many):
        total = tuple([
            tuple([one + number * other for one, other in zip(row, line)]) for row, line in zip(total, power)
        ])
        power = square_product(power, table)
    return total
