"""Equations and inequalities of all that is inside points and rays."""

from leastnet.base.fractions import total_of
from leastnet.base.integers import common_divisor, divided_by, is_integer, sum_of_products
from leastnet.base.rows import first_pivot, null_rows, reduced_rows, shortened
from leastnet.base.words import is_vector
from leastnet.errors import InvalidPoints, TooMany
from leastnet.hulls.cones import facets_of_cone
from leastnet.hulls.simplex import Hull, Mixer, are_multiples, as_fractions, check_length, check_some, cone_multiples
from leastnet.hulls.simplex import is_bound, is_direction, is_inside_paper, paper_inside, width_of

MAX_POINTS = 200
MAX_FACES = 400


def check_few(points, rays):
    """Raise the errors of what are not points and rays, of no points, and of too many."""
    width_of(points, rays)
    check_some(points)
    if len(set(points)) + len(set(rays)) > MAX_POINTS:
        raise TooMany(MAX_POINTS)


def equations_of(points, rays):
    """Return the equations of the faces."""
    first = points[0]
    rows = [[one - other for one, other in zip(point, first)] for point in points]
    rows.extend(rays)
    return tuple([(u, sum_of_products(u, first)) for u in null_rows(rows)])


def faces(points, rays):
    """Return the pair of the equations and the inequalities of all that is inside."""
    check_few(points, rays)
    return few_faces(points, rays)


def few_faces(points, rays):
    """Return the faces of what are known to be points and rays, and not too many."""
    lines, rows = facets_of_cone(vectors_of(points, rays), MAX_FACES + 1, MAX_FACES)
    equations = equations_of_lines(lines)
    inequalities = inequalities_of_rows(rows, equations)
    if len(equations) + len(inequalities) > MAX_FACES:
        raise TooMany(MAX_FACES)
    return equations, inequalities


def vectors_of(points, rays):
    """Return all points, behind a 1, and all rays, behind a 0."""
    vectors = [(1, *point) for point in sorted(set(points))]
    vectors.extend([(0, *ray) for ray in sorted({shortened(ray) for ray in rays})])
    return vectors


def equations_of_lines(lines):
    """Return the equations that the lines of the cone of all points and rays stand for."""
    if not lines:
        return ()
    return tuple([(row[:-1], -row[-1]) for row in reduced_rows([(*line[1:], line[0]) for line in lines])])


def inequalities_of_rows(rows, equations):
    """Return the inequalities that the rows of the facets of this cone stand for."""
    found = []
    pivots = [(first_pivot(u, len(u)), u, v) for u, v in equations]
    for row in rows:
        bound = [*[-number for number in row[1:]], row[0]]
        for pivot, u, v in pivots:
            factor = bound[pivot]
            bound = [u[pivot] * number - factor * less for number, less in zip(bound, (*u, v))]
        # One facet may be there for rays alone, far away from all points: it is no face.
        divisor = common_divisor(bound[:-1])
        if divisor > 0:
            found.append((divided_by(divisor, bound[:-1]), bound[-1] // divisor))
    return tuple(sorted(found))


def bounds_in(description):
    """Return all pairs of a description, or raise the error of a value that is none."""
    if not isinstance(description, tuple) or len(description) != 2:
        raise InvalidPoints("not a pair of equations and inequalities")
    if not isinstance(description[0], tuple) or not isinstance(description[1], tuple):
        raise InvalidPoints("not tuples of equations and inequalities")
    bounds = description[0] + description[1]
    for bound in bounds:
        if not is_pair(bound) or len(bound[0]) != len(bounds[0][0]):
            raise InvalidPoints("not pairs of a vector and an integer, of one length")
    return bounds


def is_pair(value):
    """Tell whether the value is a pair of a vector and an integer."""
    return isinstance(value, tuple) and len(value) == 2 and is_vector(value[0]) and is_integer(value[1])


def holds_for(description, x):
    """Tell whether the vector fulfils the equations and inequalities."""
    bounds = bounds_in(description)
    check_length(len(bounds[0][0]) if bounds else None, x)
    equations, inequalities = description
    for u, v in equations:
        if sum_of_products(u, x) != v:
            return False
    for u, v in inequalities:
        if sum_of_products(u, x) > v:
            return False
    return True


def is_faces(points, rays, value):
    """Tell whether the value is the pair of the equations and inequalities."""
    wanted = faces(points, rays)
    if value != wanted:
        return False
    # True equals 1, but it is no integer.
    return all([is_pair(bound) for bound in value[0] + value[1]])


def corners(points, rays):
    """Return the different points that are not inside the others and the rays, ascending."""
    check_few(points, rays)
    left = sorted(set(points))
    kept = []
    # A point that is inside the others can be left out: the set stays the same.
    while left:
        point = left.pop(0)
        if Hull((*kept, *left), rays).mix(point)[1] is not None:
            kept.append(point)
    return tuple(kept)


def dimension(points, rays):
    """Return the number of numbers in a vector, less the number of equations."""
    check_few(points, rays)
    return len(points[0]) - len(equations_of(points, rays))


def check_pair(value):
    """Raise the error of a value that is not a pair of points and rays; return the length of the vectors."""
    if not isinstance(value, tuple) or len(value) != 2:
        raise InvalidPoints("not a pair of points and rays")
    wide = width_of(value[0], value[1])
    check_some(value[0])
    return wide


def check_pairs(first, second):
    """Raise the error of two values that are not pairs of points and rays of one length."""
    if check_pair(first) != check_pair(second):
        raise InvalidPoints("the vectors of the pairs have different lengths")


def part_paper(first, second):
    """Return a paper that shows whether all inside the first points and rays is inside the second ones."""
    check_pairs(first, second)
    hull = Hull(second[0], second[1])
    papers = []
    for index, point in enumerate(first[0]):
        paper = paper_inside(hull, point)
        if paper[0] == "outside":
            return "point", index, paper[1], paper[2]
        papers.append(paper)
    mixer = Mixer(second[1])
    multiples = []
    for index, ray in enumerate(first[1]):
        found, u = cone_multiples(mixer, ray)
        if found is None:
            return "ray", index, u
        multiples.append(found)
    return "part", tuple(papers), tuple(multiples)


def is_part_paper(first, second, value):
    """Tell whether the value is a paper for these two pairs of points and rays."""
    check_pairs(first, second)
    if not isinstance(value, tuple) or len(value) < 3:
        return False
    if value[0] == "part":
        return len(value) == 3 and is_part(first, second, value[1], value[2])
    if value[0] == "point":
        return len(value) == 4 and is_point_outside(first, second, value[1], value[2], value[3])
    return value[0] == "ray" and len(value) == 3 and is_ray_outside(first, second, value[1], value[2])


def is_part(first, second, papers, multiples):
    """Tell whether the papers and multiples show that all points and rays of the first pair are inside the second."""
    if not isinstance(papers, tuple) or not isinstance(multiples, tuple):
        return False
    if len(papers) != len(first[0]) or len(multiples) != len(first[1]):
        return False
    for point, paper in zip(first[0], papers):
        if not is_inside_paper(second[0], second[1], point, paper):
            return False
    for ray, fractions in zip(first[1], multiples):
        if not are_multiples(second[1], fractions):
            return False
        if total_of(fractions, second[1], len(ray)) != as_fractions(ray):
            return False
    return True


def is_index(value, many):
    """Tell whether the value is the position of one of so many values."""
    return is_integer(value) and 0 <= value < many


def is_point_outside(first, second, index, u, v):
    """Tell whether (u, v) shows that this point of the first pair is outside the second one."""
    return is_index(index, len(first[0])) and is_bound(second[0], second[1], first[0][index], u, v)


def is_ray_outside(first, second, index, u):
    """Tell whether u shows that this ray of the first pair is no sum of multiples of rays of the second one."""
    if not is_index(index, len(first[1])) or not is_vector(u) or len(u) != len(first[1][index]):
        return False
    return is_direction(second[1], u) and sum_of_products(u, first[1][index]) > 0
