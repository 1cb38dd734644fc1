"""Unavoidable steps and words, and the papers that show which ones they are."""

from leastnet.base.integers import check_integer, is_integer, sum_of_products
from leastnet.base.words import check_action, check_counts, check_word, is_vector
from leastnet.errors import Avoidable, InvalidOperation, InvalidVector
from leastnet.nets.places import tokens_at
from leastnet.seen.behaviours import check_behaviour
from leastnet.seen.respect import counted, is_place_of, is_respected
from leastnet.steps.mixtures import is_mixture, seen_of, steps_of


def check_step(behaviour, counts, action):
    """Raise the errors of a behaviour and of what is not a step of its alphabet."""
    check_behaviour(behaviour)
    check_counts(len(behaviour[0]), counts)
    check_action(behaviour[0], action)


def step_paper(behaviour, counts, action):
    """Return a paper that shows whether the step is unavoidable."""
    check_step(behaviour, counts, action)
    mixture, place = seen_of(behaviour).mixture(counts, action)
    return ("place", place) if mixture is None else ("mixture", mixture)


def is_step_paper(behaviour, counts, action, value):
    """Tell whether the value is a step paper of the step."""
    check_step(behaviour, counts, action)
    if not isinstance(value, tuple) or len(value) != 2:
        return False
    if value[0] == "place":
        return is_barring_place(behaviour, counts, action, value[1])
    return value[0] == "mixture" and is_mixture(behaviour, counts, action, value[1])


def is_barring_place(behaviour, counts, action, value):
    """Tell whether the value is a place that respects the behaviour and does not allow the step."""
    alphabet = behaviour[0]
    if not is_place_of(behaviour, value) or tokens_at(value, counts) >= value[1][alphabet.index(action)]:
        return False
    return is_respected(behaviour, value)


def is_unavoidable_step(behaviour, counts, action):
    """Tell whether every place that respects the behaviour allows the step."""
    check_step(behaviour, counts, action)
    return seen_of(behaviour).allows(counts, action)


def place_of_bound(behaviour, action, u, v):
    """Return the place of (u, v) for the action."""
    check_behaviour(behaviour)
    check_action(behaviour[0], action)
    if not is_vector(u) or len(u) != len(behaviour[0]):
        raise InvalidVector("not a vector of the alphabet")
    check_integer(v)
    seen = seen_of(behaviour)
    for point in seen.points_of_action(action):
        if sum_of_products(u, point) > v:
            raise InvalidOperation("a point of the action is beyond the bound")
    for ray in seen.rays:
        if sum_of_products(u, ray) > 0:
            raise InvalidOperation("a ray leads beyond the bound")
    return seen.barring_place(action, u, v)


def is_unavoidable(behaviour, word):
    """Tell whether all steps of the word are unavoidable."""
    check_behaviour(behaviour)
    check_word(behaviour[0], word)
    return is_word_unavoidable(seen_of(behaviour), word)


def is_word_unavoidable(seen, word):
    """Tell whether all steps of what is known to be a word are unavoidable."""
    for counts, action in steps_of(seen.behaviour[0], word):
        if not seen.allows(counts, action):
            return False
    return True


def first_avoidable(seen, word):
    """Return the position of the first avoidable step and a place that bars it, or (None, None)."""
    for position, (counts, action) in enumerate(steps_of(seen.behaviour[0], word)):
        bound = seen.bound_of_step(counts, action)
        if bound is not None:
            return position, seen.barring_place(action, bound[0], bound[1])
    return None, None


def word_paper(behaviour, word):
    """Return a paper that shows whether the word is unavoidable."""
    check_behaviour(behaviour)
    check_word(behaviour[0], word)
    return paper_of_word(seen_of(behaviour), word)


def paper_of_word(seen, word):
    """Return the word paper of what is known to be a word."""
    mixtures = []
    for position, (counts, action) in enumerate(steps_of(seen.behaviour[0], word)):
        mixture, place = seen.mixture(counts, action)
        if mixture is None:
            return "place", position, place
        mixtures.append(mixture)
    return "mixtures", tuple(mixtures)


def is_word_paper(behaviour, word, value):
    """Tell whether the value is a word paper of the word."""
    check_behaviour(behaviour)
    check_word(behaviour[0], word)
    if not isinstance(value, tuple) or len(value) < 2:
        return False
    if value[0] == "mixtures":
        return len(value) == 2 and are_mixtures(behaviour, word, value[1])
    if value[0] != "place" or len(value) != 3 or not is_integer(value[1]) or not 0 <= value[1] < len(word):
        return False
    counts, action = steps_of(behaviour[0], word)[value[1]]
    return is_barring_place(behaviour, counts, action, value[2])


def are_mixtures(behaviour, word, value):
    """Tell whether the value has a mixture of each step of the word, in order."""
    if not isinstance(value, tuple) or len(value) != len(word):
        return False
    for (counts, action), mixture in zip(steps_of(behaviour[0], word), value):
        if not is_mixture(behaviour, counts, action, mixture):
            return False
    return True


def unavoidable_followers(behaviour, word):
    """Return the actions that can be put behind the word so that it is still unavoidable, ascending."""
    check_behaviour(behaviour)
    check_word(behaviour[0], word)
    seen = seen_of(behaviour)
    _, place = first_avoidable(seen, word)
    if place is not None:
        raise Avoidable(place)
    return followers_of(seen, word)


def followers_of(seen, word):
    """Return the actions whose step behind the word is unavoidable, ascending."""
    return tuple([action for action, _ in seen.steps_from(counted(seen.behaviour[0], word))])
