"""Elimination over whole numbers; rows keep no common factors, so that their numbers stay small."""

from math import gcd, lcm

from leastnet.base.integers import common_divisor, divided_by

TOGETHER = 10


def first_pivot(row, wide):
    """Return the first of these many columns in which the row is not 0, or None."""
    for column in range(wide):
        if row[column] != 0:
            return column
    return None


def shortened(row):
    """Return the row without its common factor."""
    divisor = common_divisor(row)
    return divided_by(divisor, row) if divisor > 1 else row


def cleared(row, other, pivot):
    """Return a multiple of the row, less a multiple of the other one, with 0 at the pivot of the other one."""
    divisor = gcd(row[pivot], other[pivot])
    factor = row[pivot] // divisor
    scale = other[pivot] // divisor
    return [scale * number - factor * less for number, less in zip(row, other)]


def rest_of(row, table):
    """Return a multiple of the row with 0 at all pivots of the table."""
    for pivot, other in table.items():
        if row[pivot] != 0:
            row = cleared(row, other, pivot)
    return shortened(row)


def with_table(table, more):
    """Return the rows of both tables; those of the second one have 0 at the pivots of the first one already."""
    joined = {pivot: rest_of(row, more) for pivot, row in table.items()}
    joined.update(more)
    return joined


def one_by_one(rows, wide):
    """Do for a few rows what `eliminated` says."""
    table = {}
    chosen = []
    for at, row in enumerate(rows):
        rest = rest_of(row, table)
        pivot = first_pivot(rest, wide)
        if pivot is not None:
            table = with_table(table, {pivot: rest})
            chosen.append(at)
        elif first_pivot(rest, len(rest)) is not None:
            return table, chosen, at
    return table, chosen, None


def eliminated(rows, wide):
    """Bring rows to a form in which their pivots stand alone; pivots are among the first `wide` columns.

    Returns (table, chosen, bad). The table leads from each pivot to a row that has 0 in front of it and at
    the other pivots. The rows at the positions in `chosen` are independent, and have the same sums of
    multiples. The work ends at the position `bad` of the first row that has a multiple which differs from
    a sum of multiples of earlier rows, but only behind these columns; it is None if there is no such row.
    """
    table = {}
    chosen = []
    # Many rows together, since large numbers cost most, and the rows that are there change once for all of these.
    for first in range(0, len(rows), TOGETHER):
        rests = [rest_of(row, table) for row in rows[first:first + TOGETHER]]
        more, added, bad = one_by_one(rests, wide)
        table = with_table(table, more)
        chosen.extend([first + at for at in added])
        if bad is not None:
            return table, chosen, first + bad
        if len(table) == len(rows[0]):
            break
    return table, chosen, None


def primitive(row):
    """Return the row without its common factor, with its first number that is not 0 above 0."""
    divisor = common_divisor(row)
    if row[first_pivot(row, len(row))] < 0:
        divisor = -divisor
    return divided_by(divisor, row)


def reduced_rows(rows):
    """Return the reduced rows with the same sums of multiples."""
    table = eliminated(rows, len(rows[0]))[0]
    return tuple([primitive(table[pivot]) for pivot in sorted(table)])


def null_rows(rows):
    """Return the reduced rows of all tuples whose products with each row are 0.

    With pivots at the last numbers of the rows, each column without a pivot begins exactly one row.
    """
    wide = len(rows[0])
    table = eliminated([row[::-1] for row in rows], wide)[0]
    return tuple([null_row(table, wide, free) for free in reversed(range(wide)) if free not in table])


def null_row(table, wide, free):
    """Return the one of null_rows that begins at this column; the columns of the table are turned round."""
    used = {pivot: row for pivot, row in table.items() if row[free] != 0}
    common = 1
    for pivot, row in used.items():
        common = lcm(common, row[pivot])
    found = [0] * wide
    found[free] = common
    for pivot, row in used.items():
        found[pivot] = -row[free] * (common // row[pivot])
    return primitive(found[::-1])
