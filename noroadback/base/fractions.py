"""Fractions: pairs (top, bottom) without a common divisor, the bottom above 0."""

from math import gcd

from noroadback.base.integers import is_integer, is_passed
from noroadback.errors import InvalidNumber


def fraction(top, bottom):
    """The fraction that two integers make."""
    if not is_passed(top):
        raise InvalidNumber(top)
    if not is_passed(bottom) or bottom == 0:
        raise InvalidNumber(bottom)
    divisor = gcd(top, bottom)
    if bottom < 0:
        divisor = -divisor
    return top // divisor, bottom // divisor


def is_fraction(value):
    """Whether the value is a fraction, with integers of any length."""
    if not isinstance(value, tuple) or len(value) != 2:
        return False
    top, bottom = value
    return is_integer(top) and is_integer(bottom) and bottom > 0 and gcd(top, bottom) == 1


def is_passed_fraction(value):
    """Whether the value is a fraction with integers of at most sixty digits."""
    return is_fraction(value) and is_passed(value[0]) and is_passed(value[1])


def check_fraction(value):
    """Raise the error of this module for what is no fraction."""
    if not is_passed_fraction(value):
        raise InvalidNumber(value)


def compare(one, other):
    """-1, 0 or 1, as the first fraction is below, equal to or above the second one."""
    check_fraction(one)
    check_fraction(other)
    first, second = one[0] * other[1], other[0] * one[1]
    if first == second:
        return 0
    return -1 if first < second else 1


def fraction_text(one):
    """The text of a fraction."""
    check_fraction(one)
    if one[1] == 1:
        return str(one[0])
    return f"{one[0]}/{one[1]}"
