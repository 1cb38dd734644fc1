"""Behaviours compared: whether every net that respects one of them allows all runs of the other one."""

from leastnet.base.fractions import total_of
from leastnet.base.words import is_counts
from leastnet.hulls.simplex import Mixer, as_fractions, cone_multiples, is_sum
from leastnet.seen.automata import moves_of
from leastnet.seen.behaviours import check_together, is_seen_run, seen_followers
from leastnet.seen.circles import points_before, rays_among, walked
from leastnet.seen.respect import counted
from leastnet.steps.mixtures import are_circles, is_mixture_along, seen_of
from leastnet.steps.steps import is_barring_place


def seen_both(first, second):
    """Return both behaviours as seen; the errors of values that are not behaviours with one alphabet are raised."""
    check_together((first, second))
    return seen_of(first), seen_of(second)


def covers(first, second):
    """Tell whether every net that respects the first behaviour allows all runs of the second one."""
    one, other = seen_both(first, second)
    return are_points_covered(one, other) and are_rays_covered(one, other)


def have_same_rules(first, second):
    """Tell whether each of the two behaviours covers the other one."""
    one, other = seen_both(first, second)
    if not are_points_covered(one, other) or not are_points_covered(other, one):
        return False
    return are_rays_covered(one, other) and are_rays_covered(other, one)


def are_points_covered(one, other):
    """Tell whether the points of all actions of the other one are inside those of this one and its rays."""
    for action in one.behaviour[0]:
        for point in other.points_of_action(action):
            if not one.allows(point, action):
                return False
    return True


def are_rays_covered(one, other):
    """Tell whether the rays of the other one are sums of multiples of rays of this one."""
    mixer = Mixer(tuple(one.rays))
    for ray in other.rays:
        if ray not in one.rays and mixer.mix(ray)[0] is None:
            return False
    return True


def cover_paper(first, second):
    """Return a paper that shows whether the first behaviour covers the second one."""
    one, other = seen_both(first, second)
    steps = {}
    for action in first[0]:
        for point, run in other.points_of_action(action).items():
            mixture, place = one.mixture(point, action)
            if mixture is None:
                return "step", run, action, place
            steps[point, action] = mixture
    mixer = Mixer(tuple(one.rays))
    circles = {}
    for ray, (run, circle) in other.rays.items():
        multiples = cone_multiples(mixer, ray)[0]
        if multiples is None:
            return step_beyond(one, run, circle)
        found = [(factor, *pair) for factor, pair in zip(multiples, one.rays.values()) if factor[0] > 0]
        circles[ray] = tuple(found)
    return "covers", {step: steps[step] for step in sorted(steps)}, circles


def step_beyond(one, run, circle):
    """Return a paper of a step behind the run and so many circles that it is avoidable.

    The circle is no sum of multiples of rays of `one`, so it leads out of all that is inside.
    """
    alphabet = one.behaviour[0]
    action = circle[0]
    first = counted(alphabet, run)
    ray = counted(alphabet, circle)
    most = 1
    while one.allows(along(first, ray, most), action):
        most = 2 * most
    least = most // 2
    while most - least > 1:
        middle = (least + most) // 2
        if one.allows(along(first, ray, middle), action):
            least = middle
        else:
            most = middle
    place = one.mixture(along(first, ray, most), action)[1]
    return "step", run + circle * most, action, place


def along(first, ray, many):
    """Return the first counts with the ray so many times added."""
    return tuple([number + many * more for number, more in zip(first, ray)])


def is_cover_paper(first, second, value):
    """Tell whether the value is a cover paper of the two behaviours."""
    check_together((first, second))
    if not isinstance(value, tuple) or len(value) < 3:
        return False
    if value[0] == "covers":
        if len(value) > 3 or not isinstance(value[1], dict) or not isinstance(value[2], dict):
            return False
        return are_covered(first, second, value[1], value[2])
    if value[0] != "step" or len(value) != 4:
        return False
    _, run, action, place = value
    if not is_followed(second, run, action):
        return False
    return is_barring_place(first, counted(first[0], run), action, place)


def is_followed(behaviour, run, action):
    """Tell whether the values are a run and an action by which it is followed."""
    return is_seen_run(behaviour, run) and action in seen_followers(behaviour, run)


def are_covered(first, second, steps, circles):
    """Tell whether the dicts show that all points and rays of the second behaviour are covered by the first one."""
    alphabet, _, edges = first
    paths, found = walked(second)
    points = {action: points_before(second, paths, action) for action in alphabet}
    wanted = {(point, action): True for action in alphabet for point in points[action]}
    rays = rays_among(second, paths, found)
    if not have_keys(steps, wanted, is_step) or not have_keys(circles, rays, is_counts):
        return False
    moves = moves_of(alphabet, edges)
    for (point, action), mixture in steps.items():
        if not is_mixture_along(moves, point, action, mixture):
            return False
    for ray, value in circles.items():
        if not is_sum_of_circles(moves, ray, value):
            return False
    return True


def is_step(value):
    """Tell whether the value is a pair of a counts vector and a string."""
    return isinstance(value, tuple) and len(value) == 2 and is_counts(value[0]) and isinstance(value[1], str)


def have_keys(table, wanted, is_key):
    """Tell whether the dict has exactly these keys; True equals 1, so each must be a key in its kinds, too."""
    if len(table) != len(wanted):
        return False
    for key in table:
        if not is_key(key) or key not in wanted:
            return False
    return True


def is_sum_of_circles(moves, ray, value):
    """Tell whether the value is a tuple of circles of mixtures whose sum is the ray."""
    if not are_circles(moves, value):
        return False
    alphabet = tuple(moves)
    rows = [counted(alphabet, circle) for _, _, circle in value]
    return total_of([circle[0] for circle in value], rows, len(alphabet)) == as_fractions(ray)


def is_all_covered(one, other):
    """Tell what `covers` tells, for what is seen; it keeps nothing that it finds, so that `==` can ask for it."""
    rays = tuple(one.rays)
    for ray in other.rays:
        if ray not in one.rays and not is_sum(rays, ray):
            return False
    columns = [(0, *ray) for ray in rays]
    for action in one.behaviour[0]:
        known = points_before(one.behaviour, one.paths, action)
        whole = [(1, *point) for point in known] + columns
        for point in points_before(other.behaviour, other.paths, action):
            if point not in known and not is_sum(whole, (1, *point)):
                return False
    return True
