"""Sums over runs: the least ones, the strictest places of a change, and sums that are told by the state."""

from leastnet.base.integers import is_integer, sum_of_products
from leastnet.base.rows import null_rows
from leastnet.base.words import check_action, has_only, is_vector
from leastnet.errors import InvalidNumber, InvalidOperation, InvalidVector
from leastnet.seen.automata import led_to, moves_of
from leastnet.seen.behaviours import check_behaviour, is_seen_run, one_more
from leastnet.seen.circles import ends_before
from leastnet.seen.respect import counted, losing_circle, relaxed, run_along, run_to


def check_sums(behaviour, u):
    """Raise the errors of a behaviour and of what is not a vector of its alphabet."""
    check_behaviour(behaviour)
    if not is_vector(u) or len(u) != len(behaviour[0]):
        raise InvalidVector("not a vector of the alphabet")


def place_with_change(u):
    """Return a place with the change u, whose tokens at a state are the sum of a run to it."""
    return 0, tuple([max(0, -number) for number in u]), tuple([max(0, number) for number in u])


def part_before(behaviour, ends):
    """Return the behaviour with those edges alone from which one of the ends can be reached."""
    alphabet, size, edges = behaviour
    sources = [[] for _ in range(size)]
    for state, _, target in edges:
        sources[target].append(state)
    found = {}
    todo = list(ends)
    while todo:
        state = todo.pop()
        if state not in found:
            found[state] = True
            todo.extend(sources[state])
    return alphabet, size, tuple([edge for edge in edges if edge[2] in found])


def least_sum(behaviour, u, *, before=None):
    """Return a paper of the least sum of all runs, or of all that are followed by an action."""
    check_sums(behaviour, u)
    check_before(behaviour, before)
    ends = ends_before(behaviour, before)
    if not ends:
        return ("none",)
    part = part_before(behaviour, ends)
    least, came, last = relaxed(part, place_with_change(u))
    if last is not None:
        circle = losing_circle(came, last)
        state = circle[0][0]
        return "falls", run_to(behaviour, state), tuple([action for _, action, _ in circle]), way_to(part, state, ends)
    best = min([(least[state], state) for state in ends])
    return "least", best[0], run_along(came, best[1])


def check_before(behaviour, before):
    """Raise the error of a value that is neither None nor an action."""
    if before is not None:
        check_action(behaviour[0], before)


def way_to(behaviour, first, ends):
    """Return a shortest word along a path from this state to one of the ends."""
    words = {first: ()}
    order = [first]
    at = 0
    while order[at] not in ends:
        for state, action, target in behaviour[2]:
            if state == order[at] and target not in words:
                words[target] = (*words[state], action)
                order.append(target)
        at += 1
    return words[order[at]]


def is_least_sum(behaviour, u, value, *, before=None):
    """Tell whether the value is a paper of the least sum."""
    check_sums(behaviour, u)
    check_before(behaviour, before)
    ends = ends_before(behaviour, before)
    if not isinstance(value, tuple) or len(value) == 0:
        return False
    if value[0] == "none":
        return len(value) == 1 and not ends
    if value[0] == "least":
        return len(value) == 3 and is_least(behaviour, u, ends, value[1], value[2])
    return value[0] == "falls" and len(value) == 4 and is_falling(behaviour, u, ends, value)


def is_least(behaviour, u, ends, number, run):
    """Tell whether the run leads to one of the ends, and its sum, the number, is the least of all."""
    alphabet, _, edges = behaviour
    if not is_integer(number) or not is_seen_run(behaviour, run):
        return False
    if sum_of_products(u, counted(alphabet, run)) != number:
        return False
    if not any([state in ends for state in led_to(moves_of(alphabet, edges), (0,), run)]):
        return False
    least, _, last = relaxed(part_before(behaviour, ends), place_with_change(u))
    return last is None and min([least[state] for state in ends]) == number


def is_falling(behaviour, u, ends, value):
    """Tell whether the words of the value fit at one state, and the sum of the circle is below 0."""
    alphabet, _, edges = behaviour
    _, run, circle, rest = value
    if not has_only(alphabet, run) or not has_only(alphabet, circle) or not has_only(alphabet, rest):
        return False
    if sum_of_products(u, counted(alphabet, circle)) >= 0:
        return False
    moves = moves_of(alphabet, edges)
    for state in led_to(moves, (0,), run):
        if state in led_to(moves, (state,), circle):
            if any([other in ends for other in led_to(moves, (state,), rest)]):
                return True
    return False


def strictest_place(behaviour, u):
    """Return the place with the change u that allows a step only if every such place that respects the runs does."""
    check_sums(behaviour, u)
    least, _, last = relaxed(behaviour, place_with_change(u))
    if last is not None:
        raise InvalidOperation("some circle has a sum below 0")
    return strictest(behaviour, u, least)


def strictest(behaviour, u, least):
    """Return the strictest place with the change u, of the least sums at all states."""
    bounds = {}
    for state, action, _ in behaviour[2]:
        bounds[action] = min(least[state], bounds.get(action, least[state]))
    start = 0
    for action, number in zip(behaviour[0], u):
        if action in bounds:
            start = max(start, -bounds[action], -bounds[action] - number)
    takes = [start + bounds[action] if action in bounds else max(0, -number) for action, number in zip(behaviour[0], u)]
    return start, tuple(takes), tuple([taken + number for taken, number in zip(takes, u)])


def told_sums(behaviour):
    """Return the reduced rows of all vectors that are told by the state."""
    check_behaviour(behaviour)
    return told_rows(behaviour, first_counts(behaviour))


def told_rows(behaviour, counts):
    """Return what `told_sums` returns; `counts` has for each state those of one word that leads to it."""
    differences = {}
    for state, action, target in behaviour[2]:
        differences[difference(behaviour, counts, (state, action, target))] = True
    return null_rows(list(differences) if differences else [(0,) * len(behaviour[0])])


def difference(behaviour, counts, edge):
    """Return the counts of the way over the edge, less those of the word that leads to where it ends."""
    state, action, target = edge
    behind = one_more(counts[state], behaviour[0].index(action))
    return tuple([one - other for one, other in zip(behind, counts[target])])


def first_counts(behaviour):
    """Return for each state the counts of one word that leads to it."""
    return [counted(behaviour[0], word) for word in first_words(behaviour)]


def first_words(behaviour):
    """Return for each state a shortest word that leads to it."""
    leaving = [[] for _ in range(behaviour[1])]
    for state, action, target in behaviour[2]:
        leaving[state].append((action, target))
    words = [None] * behaviour[1]
    words[0] = ()
    order = [0]
    at = 0
    while at < len(order):
        state = order[at]
        at += 1
        for action, target in leaving[state]:
            if words[target] is None:
                words[target] = (*words[state], action)
                order.append(target)
    return words


def told_value(behaviour, u, state):
    """Return the one sum of all words that lead to the state."""
    check_sums(behaviour, u)
    if not is_integer(state) or not 0 <= state < behaviour[1]:
        raise InvalidNumber(state)
    counts = first_counts(behaviour)
    for edge in behaviour[2]:
        if sum_of_products(u, difference(behaviour, counts, edge)) != 0:
            raise InvalidOperation("words that lead to one state have different sums")
    return sum_of_products(u, counts[state])
