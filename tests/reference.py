"""Slower ways of reckoning the same results, and behaviours by chance, for several test files."""

import itertools
import random
from fractions import Fraction
from math import gcd

FIVE = ("a", "b", "c", "d", "e")
ABX = ("a", "b", "x")
CP = ("c", "p")
AB = ("a", "b")
TWO = (ABX, 5, ((0, "a", 1), (0, "b", 2), (1, "a", 3), (2, "b", 3), (3, "x", 4)))
TURN = (CP, 2, ((0, "p", 1), (1, "c", 0)))
NOTHING = (("a",), 1, ())

NO_BEHAVIOURS = (
    ((), 1, ()), (("b", "a"), 1, ()), (["a"], 1, ()), "a", None, 1, True, [], {}, (), (AB,), (AB, 1), [AB, 1, ()],
    (AB, 0, ()), (AB, -1, ()), (AB, True, ()), (AB, 151, ()), (AB, None, ()), (AB, 1, []), (AB, 1, None), (AB, 2, ()),
    (AB, 1, ((0, "c", 0),)), (AB, 1, ((0, "a", 1),)), (AB, 1, ((1, "a", 0),)), (AB, 1, ([0, "a", 0],)), (AB, 1, ((0, "a"),)),
    (AB, 1, ((0, "a", 0, 0),)), (AB, 1, ((True, "a", 0),)), (AB, 1, ((0, "a", False),)), (AB, 1, ((0, "a", -1),)),
    (AB, 1, ((-1, "a", 0),)), (AB, 1, ((0, "b", 0), (0, "a", 0))), (AB, 1, ((0, "a", 0), (0, "a", 0))), (AB, 1, ((0, 0, 0),)),
    (AB, 2, ((0, "a", 0),)), (AB, 2, ((0, "a", 2),)), (AB, 2, ((0, "a", 5), (5, "a", 0))), (AB, 2, ((0, "a", 1), (2, "a", 0))),
    (AB, 3, ((0, "a", 1), (2, "a", 1))), (AB, 2, ((1, "a", 0),)), (AB, 1, ((0, ["a"], 0),)),
    (AB, 1, (), ()), (AB, "1", ()), ("ab", 1, ()), (AB, 1, ({},)), (AB, 1, ((0, "a", 0), None)), (AB, 1, "ab"),
    (AB, 2, ((0, "a", 1), (0, "a", 0))), (AB, 10 ** 39, ()), (AB, 1, ((0, "a", 10 ** 39),)),
)


def is_int(value):
    """What [0.1] calls an integer."""
    return value.__class__ is int


def chance_behaviour(chance, alphabet, size, many):
    """Return a behaviour with about so many states and edges, each state reached."""
    edges = {(chance.randrange(state), chance.choice(alphabet), state) for state in range(1, size)}
    for _ in range(many):
        edges.add((chance.randrange(size), chance.choice(alphabet), chance.randrange(size)))
    return alphabet, size, tuple(sorted(edges))


def behaviours(seed, many, size=5, more=5, alphabets=(AB, ABX, ("a",))):
    """Return behaviours by chance, small enough for plain searches."""
    chance = random.Random(seed)
    return [
        chance_behaviour(chance, chance.choice(alphabets), chance.randint(1, size), chance.randint(0, more))
        for _ in range(many)
    ]


def counts(alphabet, word):
    """Return how often each action occurs."""
    return tuple(sum(one == action for one in word) for action in alphabet)


def words(alphabet, longest):
    """Return all words of at most so many actions, by length and then ascending."""
    return [word for many in range(longest + 1) for word in itertools.product(alphabet, repeat=many)]


def states(behaviour, word, first=(0,)):
    """Return the set of the states to which a word leads."""
    found = set(first)
    for action in word:
        found = {target for state, other, target in behaviour[2] if state in found and other == action}
    return found


def runs(behaviour, longest):
    """Return the list of all runs, by length and then ascending."""
    return [word for word in words(behaviour[0], longest) if states(behaviour, word)]


def followers(behaviour, word):
    """Return the actions behind the word, ascending."""
    return tuple(action for action in behaviour[0] if states(behaviour, (*word, action)))


def paths(behaviour, first=0):
    """Return the lists of edges of all simple paths from a state."""
    found = []

    def walk(state, taken, seen):
        found.append(taken)
        for edge in behaviour[2]:
            if edge[0] == state and edge[2] not in seen:
                walk(edge[2], [*taken, edge], {*seen, edge[2]})

    walk(first, [], {first})
    return found


def circles_at(behaviour, first):
    """Return the lists of edges of all simple circles of a state."""
    found = []
    for path in paths(behaviour, first):
        last = path[-1][2] if path else first
        found += [[*path, edge] for edge in behaviour[2] if edge[0] == last and edge[2] == first]
    return found


def word_of(path):
    """Return the word along a path."""
    return tuple(action for _, action, _ in path)


def points(behaviour, wanted):
    """Return the dict of points for the states that are wanted."""
    found = {}
    for path in paths(behaviour):
        if wanted(path[-1][2] if path else 0):
            word = word_of(path)
            found.setdefault(counts(behaviour[0], word), []).append(word)
    return {point: min(found[point]) for point in sorted(found)}


def points_of(behaviour, action):
    """Return the points of an action."""
    return points(behaviour, lambda state: any(edge[:2] == (state, action) for edge in behaviour[2]))


def rays(behaviour):
    """Return the rays with the first pair of each."""
    found = {}
    for path in paths(behaviour):
        for circle in circles_at(behaviour, path[-1][2] if path else 0):
            run, word = word_of(path), word_of(circle)
            found.setdefault(counts(behaviour[0], word), []).append((len(run + word), run + word, len(run), run, word))
    return {ray: min(found[ray])[3:] for ray in sorted(found)}


def allows(place, seen, at):
    """Tell whether a place allows the step."""
    start, takes, gives = place
    return start + sum((give - take) * many for take, give, many in zip(takes, gives, seen)) >= takes[at]


def allows_word(alphabet, place, word):
    """Tell whether a place allows a word."""
    return all(allows(place, counts(alphabet, word[:at]), alphabet.index(word[at])) for at in range(len(word)))


def plain_rows(rows):
    """Return the rows with 1 at each pivot, as Fractions."""
    found = [[Fraction(number) for number in row] for row in rows]
    done = 0
    for column in range(len(found[0]) if found else 0):
        pivots = [at for at in range(done, len(found)) if found[at][column] != 0]
        if pivots:
            found[done], found[pivots[0]] = found[pivots[0]], found[done]
            found[done] = [number / found[done][column] for number in found[done]]
            for at, row in enumerate(found):
                if at != done:
                    found[at] = [number - row[column] * less for number, less in zip(row, found[done])]
            done += 1
    return found[:done]


def null_space(rows, wide):
    """Return Fractions: rows that have the product 0 with all of these."""
    table = plain_rows(rows)
    pivots = [next(at for at, number in enumerate(row) if number) for row in table]
    found = []
    for free in range(wide):
        if free not in pivots:
            row = [Fraction(0)] * wide
            row[free] = Fraction(1)
            for pivot, other in zip(pivots, table):
                row[pivot] = -other[free]
            found.append(row)
    return found


def whole(row):
    """Return the integers without common factor that are a multiple, greater than 0, of a row."""
    below = 1
    for number in row:
        below = below * Fraction(number).denominator // gcd(below, Fraction(number).denominator)
    numbers = [int(number * below) for number in row]
    divisor = gcd(*numbers)
    return tuple(number // divisor for number in numbers) if divisor else tuple(numbers)


def product(one, other):
    """Return the sum of the products."""
    return sum(x * y for x, y in zip(one, other))


def cone_solution(columns, target):
    """Return whether the target is a sum of multiples of at least 0 of the columns: by all independent ones."""
    wide = len(target)
    if not any(target):
        return True
    for many in range(1, wide + 1):
        for chosen in itertools.combinations(columns, many):
            rows = [[column[at] for column in chosen] + [target[at]] for at in range(wide)]
            table = plain_rows(rows)
            pivots = [next(at for at, number in enumerate(row) if number) for row in table]
            if pivots == list(range(many)) and all(row[many] >= 0 for row in table):
                return True
    return False


def inside(points, rays, x):
    """Tell whether x is inside."""
    return cone_solution([(1, *point) for point in points] + [(0, *ray) for ray in rays], (1, *x))


def faces(points, rays):
    """Return the faces by trying all planes through as many points and rays as needed."""
    wide = len(points[0])
    base = points[0]
    rows = [[one - other for one, other in zip(point, base)] for point in points] + [list(ray) for ray in rays]
    equations = []
    for row in plain_rows(null_space(rows, wide)):
        u = whole(row)
        equations.append((u, product(u, base)))
    pivots = [next(at for at, number in enumerate(u) if number) for u, _ in equations]
    units = [[int(at == pivot) for at in range(wide)] + [0] for pivot in pivots]
    lines = {(*point, -1) for point in points} | {(*ray, 0) for ray in rays}
    found = set()
    for chosen in itertools.combinations(sorted(lines), wide - len(pivots)):
        space = null_space(units + [list(line) for line in chosen], wide + 1)
        if len(space) != 1 or not any(space[0][:wide]):
            continue
        u = whole(space[0][:wide])
        factor = Fraction(1)
        for sign in (1, -1):
            normal = tuple(sign * number for number in u)
            first = next(at for at, number in enumerate(u) if number)
            factor = Fraction(normal[first]) / space[0][first]
            v = space[0][wide] * factor
            if all(product(normal, point) <= v for point in points) and all(product(normal, ray) <= 0 for ray in rays):
                found.add((normal, int(v)))
    return tuple(equations), tuple(sorted(found))
