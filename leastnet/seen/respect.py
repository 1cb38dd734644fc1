"""Places that respect a behaviour, and the papers that show whether they do."""

from leastnet.base.integers import are_integers, sum_of_products
from leastnet.errors import InvalidPlace
from leastnet.nets.places import change_of, is_any_place, tokens_at
from leastnet.seen.behaviours import check_behaviour, is_seen_run, seen_followers
from leastnet.seen.circles import is_circle_behind


def counted(alphabet, word):
    """Return the counts of a word of any length."""
    return tuple([word.count(action) for action in alphabet])


def is_place_of(behaviour, value):
    """Tell whether the value is a place of the alphabet of a behaviour."""
    return is_any_place(value) and len(value[1]) == len(behaviour[0])


def check_both(behaviour, place):
    """Raise the errors of a behaviour and a place of its alphabet."""
    check_behaviour(behaviour)
    if not is_place_of(behaviour, place):
        raise InvalidPlace("not a place of the alphabet of the behaviour")


def relaxed(behaviour, place):
    """Return (least, came, last): the least tokens that are found at each state by as many rounds as there are states.

    `came` has the edge by which they came there. `last` is the state that was changed last in the last round,
    or None; then the least tokens are right.
    """
    alphabet, size, edges = behaviour
    changes = dict(zip(alphabet, change_of(place)))
    least = [None] * size
    least[0] = place[0]
    came = [None] * size
    last = None
    for _ in range(size):
        last = None
        for edge in edges:
            state, action, target = edge
            if least[state] is None:
                continue
            many = least[state] + changes[action]
            if least[target] is None or many < least[target]:
                least[target] = many
                came[target] = edge
                last = target
        if last is None:
            break
    return least, came, last


def falling_states(behaviour, place, least):
    """Return a dict whose keys are the states with no least number; `least` was found by `relaxed`."""
    changes = dict(zip(behaviour[0], change_of(place)))
    targets = {}
    todo = []
    # Each circle along which tokens are lost still has an edge that lowers a number.
    for state, action, target in behaviour[2]:
        targets.setdefault(state, []).append(target)
        if least[state] + changes[action] < least[target]:
            todo.append(target)
    falling = {}
    while todo:
        state = todo.pop()
        if state not in falling:
            falling[state] = True
            todo.extend(targets.get(state, ()))
    return falling


def least_tokens(behaviour, place):
    """Return the least tokens at each state, None where there is no least number."""
    check_both(behaviour, place)
    least, _, last = relaxed(behaviour, place)
    if last is None:
        return tuple(least)
    falling = falling_states(behaviour, place, least)
    return tuple([None if state in falling else many for state, many in enumerate(least)])


def first_short(behaviour, place, least):
    """Return the first edge whose action takes more than the least tokens of its state, or None."""
    takes = dict(zip(behaviour[0], place[1]))
    for edge in behaviour[2]:
        if least[edge[0]] < takes[edge[1]]:
            return edge
    return None


def respects(behaviour, place):
    """Tell whether the place allows all runs of the behaviour."""
    check_both(behaviour, place)
    return is_respected(behaviour, place)


def is_respected(behaviour, place):
    """Tell whether the place allows all runs; both are known to be right."""
    least, _, last = relaxed(behaviour, place)
    return last is None and first_short(behaviour, place, least) is None


def respect_paper(behaviour, place):
    """Return a paper that shows whether the place respects the behaviour."""
    check_both(behaviour, place)
    return paper_of_place(behaviour, place)


def paper_of_place(behaviour, place):
    """Return the respect paper of a behaviour and a place that are known to be right."""
    least, came, last = relaxed(behaviour, place)
    if last is not None:
        circle = losing_circle(came, last)
        return "falls", run_to(behaviour, circle[0][0]), tuple([action for _, action, _ in circle])
    short = first_short(behaviour, place, least)
    if short is None:
        return "respects", tuple(least)
    return "breaks", run_along(came, short[0]), short[1]


def losing_circle(came, last):
    """Return the list of the edges of a circle that loses tokens, from the state that was changed last."""
    state = last
    # Behind so many edges there are only states of the circle.
    for _ in came:
        state = came[state][0]
    circle = [came[state]]
    while circle[-1][0] != state:
        circle.append(came[circle[-1][0]])
    return circle[::-1]


def run_along(came, state):
    """Return the word along the edges by which the least tokens came to the state."""
    actions = []
    while came[state] is not None:
        actions.append(came[state][1])
        state = came[state][0]
    return tuple(actions[::-1])


def run_to(behaviour, wanted):
    """Return a shortest run to the state."""
    found = {0: ()}
    order = [0]
    at = 0
    while wanted not in found:
        for state, action, target in behaviour[2]:
            if state == order[at] and target not in found:
                found[target] = (*found[state], action)
                order.append(target)
        at += 1
    return found[wanted]


def is_respect_paper(behaviour, place, value):
    """Tell whether the value is a respect paper of the place."""
    check_both(behaviour, place)
    if not isinstance(value, tuple) or len(value) < 2:
        return False
    if len(value) == 2:
        return value[0] == "respects" and are_kept(behaviour, place, value[1])
    if len(value) > 3 or not is_seen_run(behaviour, value[1]):
        return False
    if value[0] == "breaks":
        return is_short(behaviour, place, value[1], value[2])
    return value[0] == "falls" and is_losing(behaviour, place, value[1], value[2])


def are_kept(behaviour, place, numbers):
    """Tell whether the numbers show that the place respects the behaviour."""
    alphabet, size, edges = behaviour
    if not isinstance(numbers, tuple) or len(numbers) != size or not are_integers(numbers) or numbers[0] > place[0]:
        return False
    takes = dict(zip(alphabet, place[1]))
    changes = dict(zip(alphabet, change_of(place)))
    for state, action, target in edges:
        if numbers[state] < takes[action] or numbers[target] > numbers[state] + changes[action]:
            return False
    return True


def is_short(behaviour, place, run, action):
    """Tell whether the run can be followed by the action, whose step the place does not allow."""
    alphabet = behaviour[0]
    if action not in seen_followers(behaviour, run):
        return False
    return tokens_at(place, counted(alphabet, run)) < place[1][alphabet.index(action)]


def is_losing(behaviour, place, run, circle):
    """Tell whether the run leads to a state that has this circle, along which the place loses tokens."""
    if not is_circle_behind(behaviour, run, circle):
        return False
    return sum_of_products(change_of(place), counted(behaviour[0], circle)) < 0
