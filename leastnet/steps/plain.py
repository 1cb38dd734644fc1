"""Plain places, by which no action both takes and gives: what they bar, their papers and their net."""

from leastnet.base.integers import check_between
from leastnet.base.words import check_word
from leastnet.hulls.faces import faces
from leastnet.nets.nets import Net
from leastnet.nets.places import is_plain
from leastnet.seen.automata import moves_of
from leastnet.seen.behaviours import LONGEST, check_behaviour, one_more
from leastnet.steps.mixtures import is_mixture_along, seen_of, steps_of
from leastnet.steps.steps import check_step, is_barring_place


def plain_place(u, v):
    """Return the plain place of (u, v)."""
    return v, tuple([max(0, number) for number in u]), tuple([max(0, -number) for number in u])


def plain_paper(behaviour, counts, action):
    """Return a paper that shows whether the step is plainly unavoidable."""
    check_step(behaviour, counts, action)
    seen = seen_of(behaviour)
    mixtures = []
    for x in (counts, one_more(counts, behaviour[0].index(action))):
        mixture, bound = seen.mixture_or_bound(x, None)
        if mixture is None:
            return "place", plain_place(bound[0], bound[1])
        mixtures.append(mixture)
    return "mixtures", mixtures[0], mixtures[1]


def is_plain_paper(behaviour, counts, action, value):
    """Tell whether the value is a plain paper of the step."""
    check_step(behaviour, counts, action)
    if not isinstance(value, tuple) or len(value) < 2:
        return False
    if value[0] == "place":
        return len(value) == 2 and is_barring_place(behaviour, counts, action, value[1]) and is_plain(value[1])
    if value[0] != "mixtures" or len(value) != 3:
        return False
    alphabet, _, edges = behaviour
    moves = moves_of(alphabet, edges)
    behind = one_more(counts, alphabet.index(action))
    return is_mixture_along(moves, counts, None, value[1]) and is_mixture_along(moves, behind, None, value[2])


def is_plain_step(seen, counts, at):
    """Tell whether the step of the action at this position is plainly unavoidable."""
    return seen.allows(counts, None) and seen.allows(one_more(counts, at), None)


def is_plainly_unavoidable(behaviour, word):
    """Tell whether every plain place that respects the behaviour allows the word."""
    check_behaviour(behaviour)
    alphabet = behaviour[0]
    check_word(alphabet, word)
    seen = seen_of(behaviour)
    for counts, action in steps_of(alphabet, word):
        if not is_plain_step(seen, counts, alphabet.index(action)):
            return False
    return True


def plain_net(behaviour):
    """Return the net of the plain places of all faces of the behaviour."""
    check_behaviour(behaviour)
    seen = seen_of(behaviour)
    equations, inequalities = faces(tuple(seen.points_of_action(None)), tuple(seen.rays))
    bounds = [*equations, *inequalities]
    bounds.extend([(tuple([-number for number in u]), -v) for u, v in equations])
    places = [plain_place(u, v) for u, v in bounds if max(u) > 0]
    return Net.of(behaviour[0], tuple(places))


def first_plain_difference(behaviour, *, longest):
    """Return the first word that is plainly unavoidable but not unavoidable, of at most so many actions, or None."""
    check_behaviour(behaviour)
    check_between(longest, 0, LONGEST)
    seen = seen_of(behaviour)
    # Of the words with equal counts only the first one matters, since the steps behind them are the same.
    level = {(0,) * len(behaviour[0]): ()}
    for _ in range(longest):
        found = differences(seen, level)
        if found:
            return min(found)
        level = words_behind(seen, level)
    return None


def differences(seen, level):
    """Return the list of the words of the level with one more action whose step is only plainly unavoidable."""
    found = []
    for counts, word in level.items():
        kept = [action for action, _ in seen.steps_from(counts)]
        for at, action in enumerate(seen.behaviour[0]):
            if action not in kept and is_plain_step(seen, counts, at):
                found.append((*word, action))
    return found


def words_behind(seen, level):
    """Return the level of the first unavoidable words with one more action."""
    further = {}
    # The words of a level are ascending, so the first one with its counts comes first.
    for counts, word in level.items():
        for action, behind in seen.steps_from(counts):
            further.setdefault(behind, (*word, action))
    return further
