"""Fractions, and equations that are solved with them."""

from math import gcd, lcm

from leastnet.base.integers import are_integers, check_integer, sum_of_products
from leastnet.base.rows import eliminated, null_rows, reduced_rows
from leastnet.errors import InvalidFraction, InvalidNumber, InvalidPoints, InvalidVector

MAX_COLUMNS = 60


def is_fraction(value):
    """Tell whether the value is a pair of integers in lowest terms, the second one at least 1."""
    if not isinstance(value, tuple) or len(value) != 2 or not are_integers(value):
        return False
    return value[1] >= 1 and gcd(value[0], value[1]) == 1


def check_fraction(value):
    """Raise the error of a value that is not a fraction."""
    if not is_fraction(value):
        raise InvalidFraction("not a pair of integers in lowest terms")


def lowest(top, below):
    """Return the fraction of two integers; the second one is not 0."""
    divisor = gcd(top, below)
    if below < 0:
        divisor = -divisor
    return top // divisor, below // divisor


def fraction_of(top, below):
    """Return the fraction of two integers."""
    check_integer(top)
    check_integer(below)
    if below == 0:
        raise InvalidNumber(below)
    return lowest(top, below)


def sum_of(*fractions):
    """Return the sum of the fractions, (0, 1) of none."""
    return sum_of_all(fractions)


def sum_of_all(fractions):
    """Return the sum of the fractions in this tuple."""
    if not isinstance(fractions, tuple):
        raise InvalidFraction("not a tuple of fractions")
    for fraction in fractions:
        check_fraction(fraction)
    top, below = 0, 1
    for more, part in fractions:
        top, below = lowest(top * part + more * below, below * part)
    return top, below


def product_of(one, other):
    """Return the product of two fractions."""
    check_fraction(one)
    check_fraction(other)
    return lowest(one[0] * other[0], one[1] * other[1])


def compared(one, other):
    """Return -1, 0 or 1 as the first fraction is less than, equal to or greater than the other one."""
    check_fraction(one)
    check_fraction(other)
    left = one[0] * other[1]
    right = other[0] * one[1]
    if left == right:
        return 0
    return -1 if left < right else 1


def is_row(value):
    """Tell whether the value is a tuple of 1 to 60 integers."""
    return isinstance(value, tuple) and 1 <= len(value) <= MAX_COLUMNS and are_integers(value)


def are_rows(value):
    """Tell whether the value is a tuple of one or more rows of one length."""
    if not isinstance(value, tuple) or len(value) == 0:
        return False
    for row in value:
        if not is_row(row) or len(row) != len(value[0]):
            return False
    return True


def is_pair_to_blend(value):
    """Tell whether the value is a pair of a fraction and a row."""
    return isinstance(value, tuple) and len(value) == 2 and is_fraction(value[0]) and is_row(value[1])


def check_pairs(pairs):
    """Raise the error of a value that is not a tuple of pairs that can be blended."""
    if not isinstance(pairs, tuple) or len(pairs) == 0:
        raise InvalidFraction("not a tuple of one or more pairs")
    for pair in pairs:
        if not is_pair_to_blend(pair) or len(pair[1]) != len(pairs[0][1]):
            raise InvalidFraction("not pairs of a fraction and a tuple of integers of one length")


def common_multiple(fractions):
    """Return the least common multiple of the second numbers of the fractions."""
    multiple = 1
    for _, below in fractions:
        multiple = lcm(multiple, below)
    return multiple


def blended(pairs):
    """Return the sum of the products of the fractions with their tuples of integers."""
    check_pairs(pairs)
    return total_of([fraction for fraction, _ in pairs], [row for _, row in pairs], len(pairs[0][1]))


def total_of(fractions, rows, wide):
    """Return the sum of the products of the fractions with rows of this width; none are needed."""
    common = common_multiple(fractions)
    totals = [0] * wide
    for (top, below), row in zip(fractions, rows):
        factor = top * (common // below)
        totals = [total + factor * number for total, number in zip(totals, row)]
    return tuple([lowest(total, common) for total in totals])


def check_rows(rows):
    """Raise the error of a value that is not a tuple of rows."""
    if not are_rows(rows):
        raise InvalidPoints("not a tuple of tuples of 1 to 60 integers of one length")


def check_right(rows, right):
    """Raise the error of a value that is not a tuple with an integer for each row."""
    if not isinstance(right, tuple) or len(right) != len(rows) or not are_integers(right):
        raise InvalidVector("not a tuple with an integer for each row")


def reduced(rows):
    """Return the reduced rows with the same sums of multiples."""
    check_rows(rows)
    return reduced_rows(rows)


def kernel(rows):
    """Return the reduced rows of all tuples whose products with each row are 0."""
    check_rows(rows)
    return null_rows(rows)


def solved(rows, right):
    """Return a solution of the equations, or a conflict of them."""
    check_rows(rows)
    check_right(rows, right)
    wide = len(rows[0])
    table, chosen, bad = eliminated([(*row, number) for row, number in zip(rows, right)], wide)
    if bad is not None:
        return "conflict", conflict(rows, chosen, bad)
    solution = [(0, 1)] * wide
    for pivot, row in table.items():
        solution[pivot] = lowest(row[wide], row[pivot])
    return "solution", tuple(solution)


def conflict(rows, chosen, bad):
    """Return multiples of rows that have the sum 0; only the chosen rows and the bad one, which is their sum, count."""
    used = [*chosen, bad]
    columns = [[rows[at][column] for at in used] for column in range(len(rows[0]))]
    multiples = [0] * len(rows)
    # The chosen rows are independent, so up to a factor there is just one such sum.
    for at, multiple in zip(used, null_rows(columns)[0]):
        multiples[at] = multiple
    return tuple(multiples)


def is_solved(rows, right, value):
    """Tell whether the value is a solution or a conflict of the equations."""
    check_rows(rows)
    check_right(rows, right)
    if not isinstance(value, tuple) or len(value) != 2 or not isinstance(value[1], tuple):
        return False
    if value[0] == "solution":
        return is_solution(rows, right, value[1])
    return value[0] == "conflict" and is_conflict(rows, right, value[1])


def is_solution(rows, right, fractions):
    """Tell whether the tuple has a fraction for each column, and solves the equations."""
    if len(fractions) != len(rows[0]):
        return False
    for fraction in fractions:
        if not is_fraction(fraction):
            return False
    common = common_multiple(fractions)
    tops = [top * (common // below) for top, below in fractions]
    for row, number in zip(rows, right):
        if sum_of_products(tops, row) != number * common:
            return False
    return True


def is_conflict(rows, right, multiples):
    """Tell whether the tuple has an integer for each row, and shows that the equations have no solution."""
    if len(multiples) != len(rows) or not are_integers(multiples):
        return False
    for column in range(len(rows[0])):
        if sum_of_products(multiples, [row[column] for row in rows]) != 0:
            return False
    return sum_of_products(multiples, right) != 0
