"""Mixtures of points and rays, by an exact simplex method."""

from leastnet.base.fractions import is_fraction, lowest, total_of
from leastnet.base.integers import common_divisor, divided_by, is_integer, sum_of_products
from leastnet.base.words import is_counts, is_vector
from leastnet.errors import InvalidPoints, InvalidVector
from leastnet.hulls.cones import described

# After so many questions it is worth looking for the facets, if there are at most so many of them.
FACETS = {1: 12, 4: 40, 20: 100}


def width_of(points, rays):
    """Return the length of the vectors, None without any; the error of what are not points and rays is raised."""
    if not isinstance(points, tuple) or not isinstance(rays, tuple):
        raise InvalidPoints("not tuples of points and rays")
    wide = None
    for vector in points + rays:
        if not is_counts(vector) or wide is not None and len(vector) != wide:
            raise InvalidPoints("not vectors of one length with integers of at least 0")
        wide = len(vector)
    for ray in rays:
        if max(ray) == 0:
            raise InvalidPoints("a ray is not all 0")
    return wide


def check_length(wide, x):
    """Raise the error of a value that is not a vector of this length, or of any where there is none."""
    if not is_vector(x) or wide is not None and len(x) != wide:
        raise InvalidVector("not a vector of the length of the points and rays")


class Mixer:
    """Columns of which targets are mixed with multiples of at least 0; what was of use is tried first again."""

    def __init__(self, columns):
        self.columns = columns
        self.table = list(zip(*columns))
        self.useful = []
        self.last = None

    def mix(self, target):
        """Return (multiples, None), a dict from numbers of columns to fractions above 0 whose sum is the target.

        Where there is no such sum, returns (None, prices): their product with each column is at most 0, and with
        the target it is greater. This is the simplex method: rows of the inverse of a basis, times its
        determinant, behind how much of the basis is used. At first the basis has only unit vectors that stand
        for what is still missing.
        """
        multiples = self._by_last_basis(target)
        if multiples is not None:
            return multiples, None
        rows = first_rows(target)
        basis = [None] * len(target)
        scale = 1
        while True:
            prices = prices_of(rows, basis)
            if prices[0] == 0:
                self.last = [row[1:] for row in rows], basis, scale
                return self._by_last_basis(target), None
            at = self._entering(prices[1:])
            if at is None:
                return None, prices[1:]
            rows, basis, scale = entered(rows, basis, scale, self.columns[at], at)

    def _by_last_basis(self, target):
        """Return the multiples of the last basis that was found, or None if one of them would be below 0."""
        if self.last is None:
            return None
        rows, basis, scale = self.last
        multiples = {}
        for row, at in zip(rows, basis):
            number = sum_of_products(row, target)
            if number < 0 or number > 0 and at is None:
                return None
            if number > 0:
                multiples[at] = lowest(number, scale)
        return multiples

    def _entering(self, prices):
        """Return the number of a column that is worth using at these prices, or None."""
        best = None
        most = 0
        for at in self.useful:
            worth = sum_of_products(prices, self.columns[at])
            if worth > most:
                best = at
                most = worth
        if best is not None or not self.columns:
            return best
        worths = self._worths(prices)
        most = max(worths)
        if most <= 0:
            return None
        best = worths.index(most)
        self.useful.append(best)
        return best

    def _worths(self, prices):
        """Return the products of the prices with all columns."""
        worths = [0] * len(self.columns)
        for price, row in zip(prices, self.table):
            if price != 0:
                worths = [worth + price * number for worth, number in zip(worths, row)]
        return worths


def first_rows(target):
    """Return the rows of the basis of unit vectors that all have the signs of the target."""
    rows = []
    for at, number in enumerate(target):
        row = [abs(number)] + [0] * len(target)
        row[at + 1] = -1 if number < 0 else 1
        rows.append(row)
    return rows


def prices_of(rows, basis):
    """Return the sum of the rows that still stand for what is missing."""
    prices = [0] * (len(rows) + 1)
    for row, at in zip(rows, basis):
        if at is None:
            prices = [price + number for price, number in zip(prices, row)]
    return prices


def entered(rows, basis, scale, column, at):
    """Return the rows, the basis and its determinant after the column with this number has entered the basis."""
    steps = [sum_of_products(row[1:], column) for row in rows]
    leaving = leaving_row(rows, steps)
    found = [at if number == leaving else other for number, other in enumerate(basis)]
    return exchanged(rows, steps, leaving, scale), found, steps[leaving]


def leaving_row(rows, steps):
    """Return the number of the row that leaves the basis.

    Rows are compared by all their numbers, since otherwise the same basis could come again.
    """
    best = None
    for at, step in enumerate(steps):
        if step > 0:
            if best is None or [one * steps[best] for one in rows[at]] < [one * step for one in rows[best]]:
                best = at
    return best


def exchanged(rows, steps, leaving, scale):
    """Return the rows after the exchange; they are exactly divisible by the determinant of the old basis."""
    pivot = rows[leaving]
    factor = steps[leaving]
    found = []
    for at, row in enumerate(rows):
        if at != leaving:
            step = steps[at]
            row = [(factor * one - step * other) // scale for one, other in zip(row, pivot)]
        found.append(row)
    return found


def is_sum(columns, target):
    """Tell whether the target is a sum of multiples of at least 0 of the columns; nothing is kept for later."""
    rows = first_rows(target)
    basis = [None] * len(target)
    scale = 1
    while True:
        prices = prices_of(rows, basis)
        if prices[0] == 0:
            return True
        at = dearest(columns, prices[1:])
        if at is None:
            return False
        rows, basis, scale = entered(rows, basis, scale, columns[at], at)


def dearest(columns, prices):
    """Return the number of the column that is most worth using at these prices, or None."""
    best = None
    most = 0
    for at, column in enumerate(columns):
        worth = sum_of_products(prices, column)
        if worth > most:
            best = at
            most = worth
    return best


class Hull:
    """Points and rays that are asked for many vectors; the bounds that were found are tried first again."""

    def __init__(self, points, rays):
        self.points = points
        self.rays = rays
        self.mixer = Mixer([(1, *point) for point in points] + [(0, *ray) for ray in rays])
        self.bounds = []
        self.asked = 0
        self.cone = None

    def has(self, x):
        """Tell whether x is inside; where this is asked often, all facets answer it, if there are few of them."""
        self.asked += 1
        if self.cone is None and self.asked in FACETS and self.points:
            self.cone = described(self.mixer.columns, FACETS[self.asked])
        if self.cone is None:
            return self.mix(x)[1] is None
        lines, rows = self.cone
        vector = (1, *x)
        for row in rows:
            if sum_of_products(row, vector) < 0:
                return False
        return all([sum_of_products(line, vector) == 0 for line in lines])

    def mix(self, x):
        """Return (multiples, None) or (None, bound): multiples of points and rays, or the pair (u, v) of [7.1]."""
        for u, v in self.bounds:
            if sum_of_products(u, x) > v:
                return None, (u, v)
        if not self.points:
            return None, ((0,) * len(x), -1)
        multiples, prices = self.mixer.mix((1, *x))
        if multiples is not None:
            return multiples, None
        bound = self._tightened(prices[1:])
        self.bounds.append(bound)
        return None, bound

    def _tightened(self, prices):
        """Return the bound (u, v) without a common factor, and with v as little as the points let it be."""
        u = divided_by(common_divisor(prices), prices)
        return u, max([sum_of_products(u, point) for point in self.points])


def hull_paper(points, rays, x):
    """Return a paper that shows whether x is inside."""
    check_length(width_of(points, rays), x)
    return paper_inside(Hull(points, rays), x)


def paper_inside(hull, x):
    """Return the paper of [7.1] for what is known to be right."""
    multiples, bound = hull.mix(x)
    if multiples is None:
        u, v = bound
        return "outside", u, v
    many = len(hull.points)
    weights = [multiples.get(at, (0, 1)) for at in range(many)]
    others = [multiples.get(many + at, (0, 1)) for at in range(len(hull.rays))]
    return "inside", tuple(weights), tuple(others)


def is_hull_paper(points, rays, x, value):
    """Tell whether the value is a paper that shows whether x is inside."""
    check_length(width_of(points, rays), x)
    if not isinstance(value, tuple) or len(value) != 3:
        return False
    if value[0] == "inside":
        return is_inside_paper(points, rays, x, value)
    return value[0] == "outside" and is_bound(points, rays, x, value[1], value[2])


def is_inside_paper(points, rays, x, value):
    """Tell whether the value is a paper of the first kind of [7.1]; all else is known to be right."""
    if not isinstance(value, tuple) or len(value) != 3 or value[0] != "inside":
        return False
    if not are_multiples(points, value[1]) or not are_multiples(rays, value[2]):
        return False
    columns = [(1, *point) for point in points] + [(0, *ray) for ray in rays]
    return total_of(value[1] + value[2], columns, len(x) + 1) == as_fractions((1, *x))


def are_multiples(vectors, value):
    """Tell whether the value is a tuple with a fraction of at least 0 for each vector."""
    if not isinstance(value, tuple) or len(value) != len(vectors):
        return False
    for fraction in value:
        if not is_fraction(fraction) or fraction[0] < 0:
            return False
    return True


def as_fractions(numbers):
    """Return the integers as fractions."""
    return tuple([(number, 1) for number in numbers])


def is_bound(points, rays, x, u, v):
    """Tell whether (u, v) shows that x is outside; points, rays and x are known to be right."""
    if not is_vector(u) or len(u) != len(x) or not is_integer(v):
        return False
    for point in points:
        if sum_of_products(u, point) > v:
            return False
    return is_direction(rays, u) and sum_of_products(u, x) > v


def is_direction(rays, u):
    """Tell whether the product of u with no ray is greater than 0."""
    for ray in rays:
        if sum_of_products(u, ray) > 0:
            return False
    return True


def is_inside(points, rays, x):
    """Tell whether x is inside the points and rays."""
    check_length(width_of(points, rays), x)
    return Hull(points, rays).mix(x)[1] is None


def check_some(points):
    """Raise the error of no points."""
    if not points:
        raise InvalidPoints("there are no points")


def greatest(points, rays, u):
    """Return the first ray along which the product with u grows, or the greatest product of a point."""
    wide = width_of(points, rays)
    check_some(points)
    check_length(wide, u)
    for index, ray in enumerate(rays):
        if sum_of_products(u, ray) > 0:
            return "grows", index
    products = [sum_of_products(u, point) for point in points]
    most = max(products)
    return "greatest", most, products.index(most)


def in_cone(rays, x):
    """Return multiples of the rays whose sum is x, or None."""
    check_length(width_of((), rays), x)
    return cone_multiples(Mixer(rays), x)[0]


def cone_multiples(mixer, x):
    """Return (multiples, None) with a fraction for each column, or (None, u) with the u of [8.1] for a ray."""
    multiples, prices = mixer.mix(x)
    if multiples is None:
        return None, tuple(prices)
    return tuple([multiples.get(at, (0, 1)) for at in range(len(mixer.columns))]), None
