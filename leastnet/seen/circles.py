"""Simple paths and simple circles of a behaviour: the points and the rays of which all runs are made."""

from leastnet.base.words import check_action, has_only
from leastnet.errors import TooMany
from leastnet.seen.automata import led_to, moves_of
from leastnet.seen.behaviours import check_behaviour, check_run, one_more

MAX_PATHS = 5000
SOME_PATHS = 500
SOME_STATES = 10


def leaving_edges(behaviour):
    """Return for each state the list of (number of the edge, position of the action, next state) of its edges."""
    alphabet, size, edges = behaviour
    leaving = [[] for _ in range(size)]
    for number, (state, action, target) in enumerate(edges):
        leaving[state].append((number, alphabet.index(action), target))
    return leaving


def turned(circle):
    """Return the circle of edges so that it begins with the first one of them, whatever its first state was."""
    first = circle.index(min(circle))
    return circle[first:] + circle[:first]


def walked(behaviour):
    """Return the list of all simple paths, and the list of all simple circles.

    A path is a triple (last state, counts, numbers of its edges), a circle a tuple of numbers of edges. Each
    circle closes a simple path that meets it at its last states only, so this finds all of them.
    """
    leaving = leaving_edges(behaviour)
    paths = []
    circles = {}
    many = 1
    counted = False
    todo = [((0,), (0,) * len(behaviour[0]), ())]
    while todo:
        states, counts, taken = todo.pop()
        paths.append((states[-1], counts, taken))
        for number, at, target in leaving[states[-1]]:
            if target in states:
                closed = (*taken[states.index(target):], number)
                circles[turned(closed)] = True
            else:
                many += 1
                todo.append(((*states, target), one_more(counts, at), (*taken, number)))
        if not counted and many + len(circles) > SOME_PATHS:
            # Where there are far too many, this is quicker than to walk along all of them.
            counted = True
            if are_too_many(leaving):
                raise TooMany(MAX_PATHS)
        if many > MAX_PATHS or len(circles) > MAX_PATHS:
            raise TooMany(MAX_PATHS)
    return paths, list(circles)


def are_too_many(leaving):
    """Tell whether too many simple paths keep to an order of the states, or too many circles with one edge back.

    If not, there can be too many nevertheless.
    """
    order = states_in_order(leaving)
    places = {state: place for place, state in enumerate(order)}
    if sum(list(ways_from(leaving, order, places, 0).values())) > MAX_PATHS:
        return True
    many = 0
    for first in order[:SOME_STATES]:
        for state, ways in ways_from(leaving, order, places, first).items():
            many = many + ways * len([True for _, _, target in leaving[state] if target == first])
    return many > MAX_PATHS


def states_in_order(leaving):
    """Return the list of all states in an order in which few edges lead back, none of them without circles."""
    order = []
    found = {0: True}
    todo = [(0, 0)]
    while todo:
        state, at = todo.pop()
        if at == len(leaving[state]):
            order.append(state)
        else:
            todo.append((state, at + 1))
            target = leaving[state][at][2]
            if target not in found:
                found[target] = True
                todo.append((target, 0))
    return order[::-1]


def ways_from(leaving, order, places, first):
    """Return a dict from states to the numbers of the paths from the first one to them that keep to the order."""
    ways = {first: 1}
    for state in order[places[first]:]:
        if state in ways:
            for _, _, target in leaving[state]:
                if places[target] > places[state]:
                    ways[target] = ways.get(target, 0) + ways[state]
    return ways


def word_along(behaviour, taken):
    """Return the word along the edges with these numbers."""
    edges = behaviour[2]
    return tuple([edges[number][1] for number in taken])


def points_among(behaviour, paths, ends):
    """Return a dict from the counts of the paths to these states to their first words."""
    found = {}
    for state, counts, taken in paths:
        if state in ends:
            word = word_along(behaviour, taken)
            if counts not in found or word < found[counts]:
                found[counts] = word
    return {counts: found[counts] for counts in sorted(found)}


def ends_before(behaviour, action):
    """Return a dict whose keys are the states with an edge with this action, all states for None."""
    if action is None:
        return {state: True for state in range(behaviour[1])}
    return {state: True for state, other, _ in behaviour[2] if other == action}


def points_before(behaviour, paths, action):
    """Return the points of the action, of the behaviour for None; the paths are all simple paths."""
    return points_among(behaviour, paths, ends_before(behaviour, action))


def first_runs(behaviour, paths):
    """Return for each state the first run to it, by length and then ascending."""
    found = [None] * behaviour[1]
    for state, _, taken in paths:
        if found[state] is None or len(taken) <= len(found[state]):
            word = word_along(behaviour, taken)
            if found[state] is None or len(word) < len(found[state]) or word < found[state]:
                found[state] = word
    return found


def rays_among(behaviour, paths, circles):
    """Return the rays; the paths and circles are all simple ones."""
    edges = behaviour[2]
    firsts = first_runs(behaviour, paths)
    best = {}
    for circle in circles:
        word = word_along(behaviour, circle)
        ray = tuple([word.count(action) for action in behaviour[0]])
        heads = [firsts[edges[number][0]] for number in circle]
        shortest = min([len(head) for head in heads])
        for at, head in enumerate(heads):
            # All words of a ray have one length, so a shorter run is always the better one.
            if len(head) == shortest:
                whole = (len(head), head + word[at:] + word[:at])
                if ray not in best or whole < best[ray]:
                    best[ray] = whole
    return {ray: (best[ray][1][:best[ray][0]], best[ray][1][best[ray][0]:]) for ray in sorted(best)}


def points_of(behaviour, action):
    """Return a dict from the points of the action to the first runs that have these counts."""
    check_behaviour(behaviour)
    check_action(behaviour[0], action)
    paths, _ = walked(behaviour)
    return points_before(behaviour, paths, action)


def all_points(behaviour):
    """Return a dict from the points of the behaviour to the first runs that have these counts."""
    check_behaviour(behaviour)
    paths, _ = walked(behaviour)
    return points_before(behaviour, paths, None)


def rays_of(behaviour):
    """Return a dict from the rays to the first pairs of a run and a circle behind it."""
    check_behaviour(behaviour)
    paths, circles = walked(behaviour)
    return rays_among(behaviour, paths, circles)


def is_circle(behaviour, run, value):
    """Tell whether the value is a word along a circle of some state to which the run leads."""
    check_behaviour(behaviour)
    check_run(behaviour, run)
    return is_circle_behind(behaviour, run, value)


def is_circle_behind(behaviour, run, value):
    """Tell what `is_circle` tells, for what are known to be a behaviour and a word."""
    alphabet, _, edges = behaviour
    if not has_only(alphabet, value) or len(value) == 0:
        return False
    moves = moves_of(alphabet, edges)
    for state in led_to(moves, (0,), run):
        if state in led_to(moves, (state,), value):
            return True
    return False
