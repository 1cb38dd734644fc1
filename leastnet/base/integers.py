"""Integers: what counts as one, common divisors and sums of products."""

from math import gcd

from leastnet.errors import InvalidNumber


def is_integer(value):
    """Tell whether the value is an integer; True and False are none."""
    return isinstance(value, int) and value is not True and value is not False


def are_integers(values):
    """Tell whether all of these values are integers."""
    for value in values:
        if not is_integer(value):
            return False
    return True


def check_integer(value):
    """Raise the error of a value that is not an integer."""
    if not is_integer(value):
        raise InvalidNumber(value)


def check_at_least(value, least):
    """Raise the error of a value that is not an integer of at least `least`."""
    if not is_integer(value) or value < least:
        raise InvalidNumber(value)


def check_between(value, least, most):
    """Raise the error of a value that is not an integer from `least` to `most`."""
    if not is_integer(value) or not least <= value <= most:
        raise InvalidNumber(value)


def common_divisor(numbers):
    """Return the greatest common divisor of the numbers, 0 if all are 0."""
    common = 0
    for number in numbers:
        common = gcd(common, number)
        if common == 1:
            return 1
    return common


def divided_by(divisor, numbers):
    """Return the tuple of the numbers, each of them divided."""
    return tuple([number // divisor for number in numbers])


def sum_of_products(first, second):
    """Return the sum of the products of numbers that stand at equal positions."""
    return sum([one * other for one, other in zip(first, second)])
