"""Greatest roots of polynomials, told exactly: tuples of integers, the lowest power first, the highest one once.

The polynomials here are own polynomials of count tables, and factors of these that have the greatest root, too. So they
have a real root from 0 on, and no root has a greater absolute value. Then a number is not below the greatest
root exactly if the polynomial and all of its derivatives are at least 0 there. Nothing is checked here.
"""

# For these numbers k, 2 ** k - 1 is a prime number.
PRIME_POWERS = (127, 521, 1279, 2203, 4423, 9689, 9941, 11213, 19937)
# How many bits behind the point are asked for at first where roots are compared.
FIRST_BITS = 8


def scaled(poly, factor):
    """The polynomial with the roots so many times as great."""
    numbers = []
    power = 1
    for number in poly[::-1]:
        numbers.append(number * power)
        power = power * factor
    return tuple(numbers[::-1])


def moved(poly, number):
    """The polynomial in z - number for a number: the values of its derivatives there, each by a number above 0."""
    row = list(poly[::-1])
    for last in range(len(row) - 1, 0, -1):
        for place in range(last):
            row[place + 1] = row[place + 1] + row[place] * number
    return row[::-1]


def compare_root(poly, top, bottom):
    """-1, 0 or 1, as the greatest root is below, equal to or above a fraction."""
    row = moved(scaled(poly, bottom), top)
    if not all([number >= 0 for number in row]):
        return 1
    return 0 if row[0] == 0 else -1


def root_above(poly, most, bits):
    """The least integer so that the greatest root is not above it divided by 2 ** bits; the root is at most `most`."""
    low, high = -1, most
    while high - low > 1:
        middle = (low + high) // 2
        if compare_root(poly, middle, 1) <= 0:
            high = middle
        else:
            low = middle
    return refined(poly, high, 0, bits)


def refined(poly, above, bits, many):
    """What `root_above` tells for so many bits, of what it tells for fewer ones."""
    for added in range(bits + 1, many + 1):
        above = 2 * above
        if compare_root(poly, above - 1, 1 << added) <= 0:
            above = above - 1
    return above


def divided(poly, other):
    """The pair (quotient, remainder) of two polynomials, the remainder without zeros at the highest powers."""
    row = list(poly)
    quotient = []
    while len(row) >= len(other):
        many = row.pop()
        quotient.append(many)
        start = len(row) + 1 - len(other)
        for place in range(len(other) - 1):
            row[start + place] = row[start + place] - many * other[place]
    while row and row[-1] == 0:
        row.pop()
    return tuple(quotient[::-1]), tuple(row)


def undone_modulo(number, prime):
    """The number that makes 1 with a number, but for multiples of a prime number."""
    one, other = prime, number % prime
    first, second = 0, 1
    while other != 0:
        many = one // other
        one, other = other, one - many * other
        first, second = second, first - many * second
    return first % prime


def monic_modulo(row, prime):
    """A polynomial but for multiples of a prime number and of the number at its highest power."""
    numbers = [number % prime for number in row]
    while numbers and numbers[-1] == 0:
        numbers.pop()
    if numbers == []:
        return ()
    factor = undone_modulo(numbers[-1], prime)
    return tuple([number * factor % prime for number in numbers])


def common_modulo(one, other, prime):
    """The greatest common divisor of two polynomials but for multiples of a prime number."""
    one, other = monic_modulo(one, prime), monic_modulo(other, prime)
    while other != ():
        row = list(one)
        while len(row) >= len(other):
            many = row.pop()
            start = len(row) + 1 - len(other)
            for place in range(len(other) - 1):
                row[start + place] = (row[start + place] - many * other[place]) % prime
        one, other = other, monic_modulo(row, prime)
    return one


def common_factor(one, other, most):
    """The greatest common divisor of two polynomials whose roots are at most so great."""
    degree = len(one)
    for power in PRIME_POWERS:
        prime = (1 << power) - 1
        found = common_modulo(one, other, prime)
        # Numbers of a divisor are below this bound, so that they are told by what they are but for the prime number.
        if len(found) == 1 or power > degree * (most + 1).bit_length() + 1:
            factor = tuple([number if 2 * number < prime else number - prime for number in found])
            if divided(one, factor)[1] == () and divided(other, factor)[1] == ():
                return factor
    return (1,)


def derived(poly):
    """The derivative of a polynomial."""
    return tuple([place * number for place, number in enumerate(poly)][1:])


def simple_part(poly, most):
    """The factor of a polynomial that has each of its roots once."""
    return divided(poly, common_factor(poly, derived(poly), most))[0]


def is_above_others(poly, factor, above, bits):
    """Whether what `root_above` tells shows that the greatest root of a polynomial is one of a factor of it."""
    return compare_root(divided(poly, factor)[0], above - 1, 1 << bits) == -1


def compare_greatest(one, other, most):
    """-1, 0 or 1, as the greatest root of a polynomial is below, equal to or above that of another one."""
    one, other = simple_part(one, most), simple_part(other, most)
    if one == other:
        return 0
    factor = common_factor(one, other, most)
    bits = 0
    first, second = root_above(one, most, bits), root_above(other, most, bits)
    while first == second:
        if is_above_others(one, factor, first, bits) and is_above_others(other, factor, second, bits):
            return 0
        more = 2 * bits + FIRST_BITS
        first, second = refined(one, first, bits, more), refined(other, second, bits, more)
        bits = more
    return -1 if first < second else 1
