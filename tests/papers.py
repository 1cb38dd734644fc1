"""What the document calls a paper, told by plain searches for values of any kind; and values that are almost papers."""

from fractions import Fraction
from math import gcd

from leastnet.learner.learner import Learner
from leastnet.nets.nets import Net
from leastnet.seen.respect import respects
from reference import allows, allows_word, counts, is_int, points_of, product, rays, states, words


def is_fraction(value):
    """[0.14]"""
    plain = isinstance(value, tuple) and len(value) == 2 and is_int(value[0]) and is_int(value[1])
    return plain and value[1] >= 1 and gcd(*value) == 1


def is_word(alphabet, value):
    """[0.8], of any length."""
    return isinstance(value, tuple) and all(isinstance(one, str) and one in alphabet for one in value)


def is_place(alphabet, value):
    """[0.10]"""
    if not isinstance(value, tuple) or len(value) != 3 or not is_int(value[0]) or value[0] < 0:
        return False
    return all(
        isinstance(one, tuple) and len(one) == len(alphabet) and all(is_int(number) and number >= 0 for number in one)
        for one in value[1:]
    )


def lead(behaviour, value):
    """Return the states to which a value leads, none if it is no word."""
    return states(behaviour, value) if is_word(behaviour[0], value) else set()


def is_step_place(behaviour, x, action, value):
    """Tell whether a value is a place that respects the behaviour and does not allow the step."""
    alphabet = behaviour[0]
    return is_place(alphabet, value) and respects(behaviour, value) and not allows(value, x, alphabet.index(action))


def are_parts(behaviour, action, value):
    """Tell whether a value is a tuple of parts; their runs are followed by the action, if there is one."""
    if not isinstance(value, tuple) or not value:
        return False
    for part in value:
        if not isinstance(part, tuple) or len(part) != 2 or not is_fraction(part[0]) or part[0][0] <= 0:
            return False
        if not lead(behaviour, part[1]) or action is not None and not states(behaviour, (*part[1], action)):
            return False
    return True


def are_circles(behaviour, value):
    """Tell whether a value is a tuple of circles of a mixture."""
    if not isinstance(value, tuple):
        return False
    for one in value:
        if not isinstance(one, tuple) or len(one) != 3 or not is_fraction(one[0]) or one[0][0] <= 0:
            return False
        if not is_word(behaviour[0], one[2]) or not one[2]:
            return False
        if not any(state in states(behaviour, one[2], (state,)) for state in lead(behaviour, one[1])):
            return False
    return True


def total(wide, rows):
    """Return the sum of the fractions times the vectors."""
    found = [Fraction(0)] * wide
    for fraction, vector in rows:
        found = [one + Fraction(*fraction) * number for one, number in zip(found, vector)]
    return found


def is_mixture(behaviour, x, action, value):
    """[0.14]; for no action the runs need not be followed by anything."""
    if not isinstance(value, tuple) or len(value) != 2:
        return False
    parts, circles = value
    if not are_parts(behaviour, action, parts) or not are_circles(behaviour, circles):
        return False
    alphabet = behaviour[0]
    rows = [(weight, (1, *counts(alphabet, run))) for weight, run in parts]
    rows += [(multiple, (0, *counts(alphabet, circle))) for multiple, _, circle in circles]
    return total(len(alphabet) + 1, rows) == [1, *x]


def are_mixtures(behaviour, word, value):
    """Tell whether a value has a mixture for each step of the word."""
    if not isinstance(value, tuple) or len(value) != len(word):
        return False
    steps = [(counts(behaviour[0], word[:at]), action) for at, action in enumerate(word)]
    return all(is_mixture(behaviour, x, action, one) for (x, action), one in zip(steps, value))


def is_plain_paper(behaviour, x, action, value):
    """[11.1]"""
    if not isinstance(value, tuple) or not value:
        return False
    if value[0] == "place" and len(value) == 2:
        plain = is_step_place(behaviour, x, action, value[1])
        return plain and not any(taken and given for taken, given in zip(*value[1][1:]))
    if value[0] != "mixtures" or len(value) != 3:
        return False
    behind = tuple(number + (other == action) for number, other in zip(x, behaviour[0]))
    return is_mixture(behaviour, x, None, value[1]) and is_mixture(behaviour, behind, None, value[2])


def is_cover_paper(first, second, value):
    """[12.2]"""
    if not isinstance(value, tuple) or not value:
        return False
    if value[0] == "step" and len(value) == 4:
        _, run, action, place = value
        if action not in first[0] or not lead(second, run) or not states(second, (*run, action)):
            return False
        return is_step_place(first, counts(first[0], run), action, place)
    if value[0] != "covers" or len(value) != 3 or not all(isinstance(one, dict) for one in value[1:]):
        return False
    steps = [(point, action) for action in first[0] for point in points_of(second, action)]
    if sorted(map(repr, value[1])) != sorted(map(repr, steps)) or sorted(map(repr, value[2])) != sorted(map(repr, rays(second))):
        return False
    if not all(is_mixture(first, *step, mixture) for step, mixture in value[1].items()):
        return False
    return all(
        are_circles(first, circles)
        and total(len(ray), [(one[0], counts(first[0], one[2])) for one in circles]) == list(ray)
        for ray, circles in value[2].items()
    )


def is_barring(behaviour, wished, value):
    """[13.1], with any number of places."""
    if not isinstance(value, tuple) or not value:
        return False
    if value[0] == "net" and len(value) == 2:
        if not isinstance(value[1], Net) or value[1].alphabet != behaviour[0]:
            return False
        places = value[1].places
        barred = all(any(not allows_word(behaviour[0], place, word) for place in places) for word in wished)
        return barred and all(respects(behaviour, place) for place in places)
    if value[0] != "unavoidable" or len(value) != 3 or not is_int(value[1]) or not 0 <= value[1] < len(wished):
        return False
    return are_mixtures(behaviour, wished[value[1]], value[2])


def has_edge(behaviour, state, action):
    """Tell whether a state has an edge of the action, or stands at all for None."""
    return action is None or any(edge[:2] == (state, action) for edge in behaviour[2])


def least_of_all(behaviour, u, before):
    """Return the least sum of all runs, None if there is no run; "falls" if there is no least one."""
    alphabet, size, edges = behaviour
    least = {0: 0}
    for many in range(2 * size + 1):
        older = dict(least)
        for state, action, target in edges:
            if state in least:
                sum_ = least[state] + u[alphabet.index(action)]
                least[target] = min(sum_, least.get(target, sum_))
    falling = {state for state in least if least[state] < older[state]}
    for _ in range(size):
        falling |= {target for state, _, target in edges if state in falling}
    ends = [state for state in range(size) if has_edge(behaviour, state, before)]
    if not ends:
        return None
    return "falls" if falling & set(ends) else min(least[state] for state in ends)


def is_least_sum(behaviour, u, before, value):
    """[14.1]"""
    alphabet = behaviour[0]
    if not isinstance(value, tuple) or not value:
        return False
    wanted = least_of_all(behaviour, u, before)
    if value[0] == "none":
        return len(value) == 1 and wanted is None
    if value[0] == "least" and len(value) == 3:
        ends = [state for state in lead(behaviour, value[2]) if has_edge(behaviour, state, before)]
        return is_int(value[1]) and value[1] == wanted and bool(ends) and product(u, counts(alphabet, value[2])) == wanted
    if value[0] != "falls" or len(value) != 4 or not all(is_word(alphabet, word) for word in value[1:]):
        return False
    _, run, circle, rest = value
    if not circle or product(u, counts(alphabet, circle)) >= 0:
        return False
    return any(
        state in states(behaviour, circle, (state,))
        and any(has_edge(behaviour, end, before) for end in states(behaviour, rest, (state,)))
        for state in states(behaviour, run)
    )


def is_exact(behaviour, net, markings):
    """[15.1], by all words that are no longer than there are states and one more."""
    alphabet, size, edges = behaviour
    if not isinstance(net, Net) or net.alphabet != alphabet or not isinstance(markings, tuple) or len(markings) != size:
        return False
    if len(set(map(repr, markings))) != size:
        return False
    for word in words(alphabet, size + 1):
        ends = states(behaviour, word)
        if not ends:
            continue
        marking = tuple(
            start + product(counts(alphabet, word), [give - take for take, give in zip(takes, gives)])
            for start, takes, gives in net.places
        )
        enabled = [
            action for action in alphabet
            if all(allows(place, counts(alphabet, word), alphabet.index(action)) for place in net.places)
        ]
        for state in ends:
            if repr(markings[state]) != repr(marking):
                return False
            if enabled != [action for action in alphabet if has_edge(behaviour, state, action)]:
                return False
    return True


def pair_rows(behaviour, value):
    """Return the rows of the pairs of [15.2], None if the value has none."""
    if not isinstance(value, tuple):
        return None
    rows = []
    for pair in value:
        if not isinstance(pair, tuple) or len(pair) != 3 or not is_fraction(pair[0]) or pair[0][0] == 0:
            return None
        if not lead(behaviour, pair[1]) & lead(behaviour, pair[2]):
            return None
        one, other = (counts(behaviour[0], word) for word in pair[1:])
        rows.append((pair[0], (0, *(more - less for more, less in zip(one, other)))))
    return rows


def is_exact_paper(behaviour, value):
    """[15.2]"""
    alphabet = behaviour[0]
    if not isinstance(value, tuple) or not value:
        return False
    if value[0] == "net" and len(value) == 3:
        return is_exact(behaviour, value[1], value[2])
    if value[0] == "states" and len(value) == 4:
        _, first, second, pairs = value
        ends = [(one, other) for one in lead(behaviour, first) for other in lead(behaviour, second) if one != other]
        rows = pair_rows(behaviour, pairs)
        if not ends or rows is None:
            return False
        wanted = [one - other for one, other in zip(counts(alphabet, first), counts(alphabet, second))]
        return total(len(alphabet) + 1, rows) == [0, *wanted]
    if value[0] != "action" or len(value) != 5:
        return False
    _, word, action, parts, pairs = value
    rows = pair_rows(behaviour, pairs)
    if not isinstance(action, str) or action not in alphabet or rows is None or not are_parts(behaviour, action, parts):
        return False
    if not any(not has_edge(behaviour, state, action) for state in lead(behaviour, word)):
        return False
    rows += [(weight, (1, *counts(alphabet, run))) for weight, run in parts]
    return total(len(alphabet) + 1, rows) == [1, *counts(alphabet, word)]


def near(chance, value):
    """Return a value that differs a little from this one, sometimes only in its order."""
    if isinstance(value, dict):
        return near_dict(chance, value)
    if isinstance(value, Net):
        places = [place for place in value.places if chance.random() < 0.8]
        more = [(chance.randint(0, 2), place[1], place[2]) for place in places if chance.random() < 0.2]
        return Net(value.alphabet, *places, *more)
    if isinstance(value, tuple) and value and chance.random() < 0.75:
        at = chance.randrange(len(value))
        return (*value[:at], near(chance, value[at]), *value[at + 1:])
    if isinstance(value, tuple):
        return near_tuple(chance, value)
    if isinstance(value, str):
        return chance.choice((value, "a", "b", "c", "x", "p", value + "s", "net", None))
    if is_int(value):
        return chance.choice((value + 1, value - 1, -value, 2 * value, value == 1, None, str(value)))
    return chance.choice((0, 1, (), None, "a", Learner(("a",))))


def near_tuple(chance, value):
    """Return a tuple with other members or another order, or a list of them."""
    some = list(value)
    change = chance.randrange(6)
    if change == 0 and some:
        some.pop(chance.randrange(len(some)))
    elif change == 1:
        some.insert(chance.randint(0, len(some)), chance.choice([*some, "a", 1, ()]))
    elif change == 2:
        return some
    elif change < 5:
        chance.shuffle(some)
    else:
        some = some[::-1]
    return tuple(some)


def near_dict(chance, value):
    """Return a dict with other keys, another order, or another value."""
    pairs = list(value.items())
    if not pairs:
        return chance.choice(({}, {"a": 1}, {(1,): ()}))
    change = chance.randrange(4)
    at = chance.randrange(len(pairs))
    if change == 0:
        pairs.pop(at)
    elif change == 1:
        pairs[at] = near(chance, pairs[at][0]), pairs[at][1]
    elif change == 2:
        pairs[at] = pairs[at][0], near(chance, pairs[at][1])
    else:
        chance.shuffle(pairs)
    return {hashed(key): one for key, one in pairs}


def hashed(key):
    """Return the key, or something in its place that can be a key."""
    try:
        hash(key)
    except TypeError:
        return None
    return key
