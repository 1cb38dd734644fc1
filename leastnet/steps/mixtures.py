"""Mixtures of seen steps, and the places that bar all other steps."""

from leastnet.base.fractions import is_fraction, total_of
from leastnet.base.integers import sum_of_products
from leastnet.base.words import has_only
from leastnet.hulls.simplex import Hull, as_fractions
from leastnet.seen.automata import led_to, moves_of
from leastnet.seen.behaviours import one_more
from leastnet.seen.circles import points_before, rays_among, walked
from leastnet.seen.respect import counted


class Seen:
    """A behaviour that is asked for many steps; what was worked out for one of them is kept for the others."""

    def __init__(self, behaviour, paths, rays):
        self.behaviour = behaviour
        self.paths = paths
        self.rays = rays
        self.points = {}
        self.hulls = {}
        self.steps = {}

    def afresh(self):
        """Return the same without what was found for any steps: that has an influence on which papers are found."""
        other = Seen(self.behaviour, self.paths, self.rays)
        other.points = self.points
        return other

    def points_of_action(self, action):
        """Return the dict from the points of the action to runs; None stands for all points of the behaviour."""
        if action not in self.points:
            self.points[action] = points_before(self.behaviour, self.paths, action)
        return self.points[action]

    def _hull(self, action):
        """Return the hull of the points of the action and the rays."""
        if action not in self.hulls:
            self.hulls[action] = Hull(tuple(self.points_of_action(action)), tuple(self.rays))
        return self.hulls[action]

    def bound_of_step(self, counts, action):
        """Return the pair (u, v) by which the step can be barred, None for an unavoidable one."""
        return self._hull(action).mix(counts)[1]

    def allows(self, counts, action):
        """Tell whether the step is unavoidable, and for None whether the counts are inside all points and rays."""
        return counts in self.points_of_action(action) or self._hull(action).has(counts)

    def mixture(self, counts, action):
        """Return (mixture, None) of the step, or (None, place) with a place that bars it."""
        mixture, bound = self.mixture_or_bound(counts, action)
        if mixture is None:
            return None, self.barring_place(action, bound[0], bound[1])
        return mixture, None

    def mixture_or_bound(self, counts, action):
        """Return (mixture, None) of the step, or (None, bound); runs of None need not be followed by anything."""
        multiples, bound = self._hull(action).mix(counts)
        if multiples is None:
            return None, bound
        points = list(self.points_of_action(action).values())
        rays = list(self.rays.values())
        parts = []
        circles = []
        for at in sorted(multiples):
            if at < len(points):
                parts.append((multiples[at], points[at]))
            else:
                circles.append((multiples[at], *rays[at - len(points)]))
        return (tuple(parts), tuple(circles)), None

    def barring_place(self, action, u, v):
        """Return the place of (u, v) for the action, with the least start for which it respects the behaviour."""
        alphabet = self.behaviour[0]
        start = max(0, v, v + u[alphabet.index(action)])
        takes = []
        for number, other in zip(u, alphabet):
            taken = max(0, number)
            takes.append(taken)
            if other != action:
                for point in self.points_of_action(other):
                    start = max(start, sum_of_products(u, point) + taken)
        takes[alphabet.index(action)] = start - v
        gives = [taken - number for taken, number in zip(takes, u)]
        return start, tuple(takes), tuple(gives)

    def steps_from(self, counts):
        """Return the list of the actions whose step at these counts is unavoidable, with the counts behind it."""
        if counts not in self.steps:
            self.steps[counts] = [
                (action, one_more(counts, at)) for at, action in enumerate(self.behaviour[0])
                if self.allows(counts, action)
            ]
        return self.steps[counts]


def seen_of(behaviour):
    """Return what is seen in the behaviour; too many simple paths or circles raise an error."""
    paths, circles = walked(behaviour)
    return Seen(behaviour, paths, rays_among(behaviour, paths, circles))


def steps_of(alphabet, word):
    """Return the list of the steps of a word."""
    steps = []
    counts = (0,) * len(alphabet)
    for action in word:
        steps.append((counts, action))
        counts = one_more(counts, alphabet.index(action))
    return steps


def is_mixture(behaviour, counts, action, value):
    """Tell whether the value is a mixture of the step; all else is known to be right."""
    return is_mixture_along(moves_of(behaviour[0], behaviour[2]), counts, action, value)


def is_mixture_along(moves, counts, action, value):
    """Tell whether the value is a mixture of the step, of None one whose runs need not be followed by anything."""
    if not isinstance(value, tuple) or len(value) != 2:
        return False
    parts, circles = value
    if not are_parts(moves, action, parts) or not are_circles(moves, circles):
        return False
    alphabet = tuple(moves)
    rows = [(1, *counted(alphabet, run)) for _, run in parts]
    rows.extend([(0, *counted(alphabet, circle)) for _, _, circle in circles])
    factors = [part[0] for part in parts + circles]
    return total_of(factors, rows, len(alphabet) + 1) == as_fractions((1, *counts))


def are_parts(moves, action, value):
    """Tell whether the value is a tuple of one or more parts of mixtures; their sum is not looked at."""
    if not isinstance(value, tuple) or len(value) == 0:
        return False
    for part in value:
        if not is_part_of_mixture(moves, action, part):
            return False
    return True


def are_circles(moves, value):
    """Tell whether the value is a tuple of circles of mixtures."""
    if not isinstance(value, tuple):
        return False
    for circle in value:
        if not is_circle_of_mixture(moves, circle):
            return False
    return True


def is_above_zero(value):
    """Tell whether the value is a fraction greater than 0."""
    return is_fraction(value) and value[0] > 0


def states_of_run(moves, value):
    """Return the states to which the value leads, none if it is no run."""
    return led_to(moves, (0,), value) if has_only(tuple(moves), value) else ()


def is_part_of_mixture(moves, action, value):
    """Tell whether the value is a pair of a weight and a run that is followed by the action."""
    if not isinstance(value, tuple) or len(value) != 2 or not is_above_zero(value[0]):
        return False
    states = states_of_run(moves, value[1])
    if action is None:
        return len(states) > 0
    return any([state in moves[action] for state in states])


def is_circle_of_mixture(moves, value):
    """Tell whether the value is a triple of a multiple, a run and a circle behind the run."""
    if not isinstance(value, tuple) or len(value) != 3 or not is_above_zero(value[0]):
        return False
    if not has_only(tuple(moves), value[2]) or len(value[2]) == 0:
        return False
    return any([state in led_to(moves, (state,), value[2]) for state in states_of_run(moves, value[1])])
