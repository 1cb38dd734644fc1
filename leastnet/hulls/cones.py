"""The facets of a pointed cone: from each of them the ones beside it are found by turning it."""

from leastnet.base.integers import sum_of_products
from leastnet.base.rows import null_rows, shortened
from leastnet.errors import TooMany


class Cone:
    """All sums of multiples of vectors whose numbers are at least 0, and not all 0.

    A face is the ascending tuple of the positions of the vectors on it; its rank tells how many of these are
    independent. A facet has a row whose product with its vectors is 0, and with all others of the face greater.
    """

    def __init__(self, vectors, most, limit):
        self.vectors = vectors
        self.most = most
        self.limit = limit
        self.known = {}

    def facets(self, face, rank):
        """Return a dict from the facets of a face to their rows; more than `most` raise `TooMany(limit)`.

        A face has fewer facets than the cone itself, so it may raise this error for the cone.
        """
        if face not in self.known:
            if rank == 1:
                self.known[face] = {(): self._inner_row()}
            elif len(face) == rank:
                self.known[face] = self._facets_of_few(face)
            else:
                self.known[face] = self._turned_facets(face, rank)
        return self.known[face]

    def _inner_row(self):
        """Return a row whose product with each vector is greater than 0."""
        return (1,) * len(self.vectors[0])

    def _facets_of_few(self, face):
        """Return the facets of a face with independent vectors: each leaves one of them out."""
        found = {}
        for at, left in enumerate(face):
            facet = face[:at] + face[at + 1:]
            rows = null_rows([self.vectors[other] for other in facet])
            found[facet] = self._row_above(rows, left)
        return found

    def _row_above(self, rows, left):
        """Return the first row whose product with this vector is not 0, with the sign that makes it greater."""
        for row in rows:
            worth = sum_of_products(row, self.vectors[left])
            if worth > 0:
                return row
            if worth < 0:
                return tuple([-number for number in row])
        return None

    def _turned_facets(self, face, rank):
        """Return the facets of a face: each one is turned around each of its own facets, to the other side."""
        row = self._first_row(face)
        first = tuple([at for at, worth in self._worths(row, face).items() if worth == 0])
        found = {first: row}
        ridges = {}
        todo = [first]
        while todo:
            facet = todo.pop()
            row = found[facet]
            worths = self._worths(row, face)
            for ridge, other in self.facets(facet, rank - 1).items():
                # Exactly two facets meet at a ridge, so the second one need not be turned around it.
                if ridge not in ridges:
                    ridges[ridge] = True
                    met, turned = self._turned(row, worths, other)
                    beside = tuple(sorted([*ridge, *met]))
                    if beside not in found:
                        found[beside] = turned
                        todo.append(beside)
            if len(found) > self.most:
                raise TooMany(self.limit)
        return found

    def _worths(self, row, face):
        """Return a dict from the positions on the face to the products of the row with their vectors."""
        return {at: sum_of_products(row, self.vectors[at]) for at in face}

    def _turned(self, row, worths, other):
        """Turn a row with these worths towards another one as far as it stays at least 0 on the face.

        Returns (met, turned): the list of the vectors at which it has become 0, and the turned row.
        """
        products = {at: sum_of_products(other, self.vectors[at]) for at, worth in worths.items() if worth > 0}
        best = None
        for at, product in products.items():
            if best is None or product * worths[best] < products[best] * worths[at]:
                best = at
        factor = worths[best]
        least = products[best]
        met = [at for at, product in products.items() if product * factor == least * worths[at]]
        return met, shortened(tuple([factor * more - least * one for one, more in zip(row, other)]))

    def _first_row(self, face):
        """Return the row of some facet of the face: an inner row is turned until only a facet is left."""
        row = self._inner_row()
        while True:
            worths = self._worths(row, face)
            other = self._other_row(row, worths)
            if other is None:
                return row
            _, row = self._turned(row, worths, other)

    def _other_row(self, row, worths):
        """Return a row that is 0 where this one is, but no multiple of it on the face, or None."""
        zero = [self.vectors[at] for at, worth in worths.items() if worth == 0]
        above = [at for at, worth in worths.items() if worth > 0]
        base = worths[above[0]]
        # Without vectors every row is 0 on all of them.
        for other in null_rows(zero if zero else [(0,) * len(row)]):
            first = sum_of_products(other, self.vectors[above[0]])
            if any([sum_of_products(other, self.vectors[at]) * base != first * worths[at] for at in above]):
                return other
        return None
