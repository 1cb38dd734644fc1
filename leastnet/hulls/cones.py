"""The facets of a pointed cone: its vectors are added one by one, or the facets are turned around one another.

The first way is quicker by far, but on its way it can come upon many more facets than the cone has in the end.
"""

from math import gcd

from leastnet.base.integers import common_divisor, divided_by, sum_of_products
from leastnet.base.rows import null_rows, shortened
from leastnet.errors import TooMany


def facets_of_cone(vectors, most, limit):
    """Return (lines, rows): rows whose products with all vectors are 0, and those of the facets.

    The products of these are at least 0, and up to sums with lines and multiples there are no others. The vectors
    have numbers of at least 0, and not all 0. More than `most` facets may raise `TooMany(limit)`.
    """
    found = described(vectors, most)
    if found is not None:
        return found
    return null_rows(vectors), list(Turning(vectors, most, limit).facets(tuple(range(len(vectors)))).values())


def spread(vectors):
    """Return the list of the vectors in an order in which neighbours stand far apart: so few facets come and go."""
    many = len(vectors)
    step = max(1, many * 89 // 144)
    while gcd(step, many) > 1:
        step += 1
    return [vectors[at * step % many] for at in range(many)]


def described(vectors, most):
    """Return (lines, rows) by the method of double description, or None if there are more than `most` at any time."""
    wide = len(vectors[0])
    lines = [tuple([int(at == other) for other in range(wide)]) for at in range(wide)]
    # Behind each row is told by bits with which vectors its product is 0.
    rows = []
    for at, vector in enumerate(spread(vectors)):
        first = first_touched(lines, vector)
        if first is None:
            rows = cut(rows, vector, 1 << at, wide - len(lines))
        else:
            line = lines.pop(first)
            if sum_of_products(line, vector) < 0:
                line = tuple([-number for number in line])
            lines = [freed(other, line, vector) for other in lines]
            rows = [(freed(row, line, vector), zero | 1 << at) for row, zero in rows]
            rows.append((line, (1 << at) - 1))
        if len(rows) > most:
            return None
    return lines, [row for row, _ in rows]


def first_touched(lines, vector):
    """Return the position of the first line whose product with the vector is not 0, or None."""
    for at, line in enumerate(lines):
        if sum_of_products(line, vector) != 0:
            return at
    return None


def between(one, worth, other, less):
    """Return so many times one row, less so many times another one, without a common factor."""
    return shortened(tuple([worth * more - less * number for more, number in zip(one, other)]))


def freed(row, line, vector):
    """Return the row with so much of the line, whose product with the vector is above 0, that its own one is 0."""
    return between(row, sum_of_products(line, vector), line, sum_of_products(row, vector))


def cut(rows, vector, bit, rank):
    """Return the rows of the facets of the cone with one more vector; its bit and the rank of the cone are told."""
    above = []
    below = []
    kept = []
    for row, zero in rows:
        worth = sum_of_products(row, vector)
        if worth < 0:
            below.append((row, zero, worth))
        elif worth > 0:
            above.append((row, zero, worth))
            kept.append((row, zero))
        else:
            kept.append((row, zero | bit))
    zeros = [zero for _, zero in rows]
    bits = [0] * (rank - 3)
    for low, under, less in below:
        for row, zero, worth in above:
            common = zero & under
            # Facets that meet have rank - 2 vectors in common at least, and no third facet has all of these.
            rest = common
            for _ in bits:
                rest = rest & (rest - 1)
            if (rest > 0 or rank < 3) and [other & common for other in zeros].count(common) == 2:
                kept.append((between(low, worth, row, less), common | bit))
    return kept


class Turning:
    """Vectors of which facets are found by turning others; a face is the ascending tuple of their positions on it.

    A facet has a row whose product with its vectors is 0, and with all others of the face greater.
    """

    def __init__(self, vectors, most, limit):
        self.vectors = vectors
        self.most = most
        self.limit = limit

    def facets(self, face):
        """Return a dict from the facets of the face to their rows: each is turned around its own facets.

        A face has fewer facets than the cone itself, so it may raise the error for the cone.
        """
        vectors = [self.vectors[at] for at in face]
        columns = list(zip(*vectors))
        row, worths = self._first_row(face, columns)
        first = zeros_of(face, worths)
        found = {first: row}
        todo = [(first, row, worths)]
        ridges = {}
        while todo:
            facet, row, worths = todo.pop()
            for ridge, other in self._facets_of_facet(facet).items():
                # Exactly two facets meet at a ridge, so the second one need not be turned around it.
                if ridge not in ridges:
                    ridges[ridge] = True
                    turned, behind = turned_row(row, worths, other, products(other, columns))
                    beside = zeros_of(face, behind)
                    if beside not in found:
                        found[beside] = turned
                        todo.append((beside, turned, behind))
            if len(found) > self.most:
                raise TooMany(self.limit)
        return found

    def _facets_of_facet(self, face):
        """Return the facets of a facet, by the quicker way where it is short enough."""
        vectors = [self.vectors[at] for at in face]
        found = described(vectors, self.most)
        if found is None:
            return self.facets(face)
        columns = list(zip(*vectors))
        return {zeros_of(face, products(row, columns)): row for row in found[1]}

    def _first_row(self, face, columns):
        """Return the row of some facet, and its worths: an inner row is turned until only a facet is left."""
        row = (1,) * len(columns)
        while True:
            worths = products(row, columns)
            other = self._other_row(face, row, worths)
            if other is None:
                return row, worths
            row, _ = turned_row(row, worths, other, products(other, columns))

    def _other_row(self, face, row, worths):
        """Return a row that is 0 where this one is, but no multiple of it on the face, or None."""
        zero = [self.vectors[at] for at, worth in zip(face, worths) if worth == 0]
        above = [(self.vectors[at], worth) for at, worth in zip(face, worths) if worth > 0]
        vector, base = above[0]
        # Without vectors every row is 0 on all of them.
        for other in null_rows(zero if zero else [(0,) * len(row)]):
            first = sum_of_products(other, vector)
            if any([sum_of_products(other, more) * base != first * worth for more, worth in above]):
                return other
        return None


def products(row, columns):
    """Return the list of the products of the row with all vectors, whose numbers are given column by column."""
    totals = [0] * len(columns[0])
    for number, column in zip(row, columns):
        if number != 0:
            totals = [total + number * more for total, more in zip(totals, column)]
    return totals


def zeros_of(face, worths):
    """Return the face of the vectors whose worths are 0."""
    return tuple([at for at, worth in zip(face, worths) if worth == 0])


def turned_row(row, worths, other, others):
    """Turn a row with these worths towards another one as far as it stays at least 0 on the face.

    Returns the turned row and its worths.
    """
    factor = 0
    least = 0
    for worth, product in zip(worths, others):
        if worth > 0 and (factor == 0 or product * factor < least * worth):
            factor = worth
            least = product
    turned = [factor * more - least * one for one, more in zip(row, other)]
    divisor = common_divisor(turned)
    behind = [(factor * more - least * one) // divisor for one, more in zip(worths, others)]
    return divided_by(divisor, turned), behind
