"""Integers: which values are some, and which of these can be passed."""

MAX_PASSED = 10 ** 60 - 1


def is_integer(value):
    """Whether the value is an integer, of any length; True and False are none."""
    return isinstance(value, int) and not isinstance(value, bool)


def is_within(value, least, most):
    """Whether the value is an integer from the least to the most one."""
    return is_integer(value) and least <= value <= most


def is_passed(value):
    """Whether the value is an integer of at most sixty digits."""
    return is_within(value, -MAX_PASSED, MAX_PASSED)


def integer_power(base, many):
    """The product of so many equal integers, 1 for none."""
    total = 1
    for _ in range(many):
        total = total * base
    return total
