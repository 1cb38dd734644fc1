"""Behaviours: graphs whose paths are the runs that were seen."""

from leastnet.base.integers import check_between, is_integer
from leastnet.base.words import check_alphabet, check_word, has_only, is_alphabet
from leastnet.errors import InvalidBehaviour, InvalidOperation, InvalidWord, TooMany
from leastnet.seen.automata import actions_after, beside, following, kinds_of_rows, kinds_of_tree, led_to, moves_of
from leastnet.seen.automata import set_rows, settled_form, tree_rows

MAX_STATES = 150
MAX_EDGES = 750
MAX_SETS = 2000
LONGEST = 8


def is_edge(alphabet, value):
    """Tell whether the value is a triple (state, action, next) with states of at least 0."""
    if not isinstance(value, tuple) or len(value) != 3:
        return False
    state, action, target = value
    if not is_integer(state) or not is_integer(target):
        return False
    return state >= 0 and target >= 0 and action in alphabet


def reached_states(edges):
    """Return a dict whose keys are the states that are reached along the edges from state 0."""
    targets = {}
    for state, _, target in edges:
        targets.setdefault(state, []).append(target)
    reached = {0: True}
    todo = [0]
    while todo:
        state = todo.pop()
        for target in targets.get(state, ()):
            if target not in reached:
                reached[target] = True
                todo.append(target)
    return reached


def are_edges(alphabet, size, edges):
    """Tell whether these are the edges of a behaviour with so many states."""
    before = ()
    for edge in edges:
        if not is_edge(alphabet, edge) or edge[0] >= size or edge[2] >= size or edge <= before:
            return False
        before = edge
    return len(reached_states(edges)) == size


def is_behaviour(value):
    """Tell whether the value is a behaviour."""
    if not isinstance(value, tuple) or len(value) != 3:
        return False
    alphabet, size, edges = value
    if not is_alphabet(alphabet) or not is_integer(size) or not 1 <= size <= MAX_STATES:
        return False
    return isinstance(edges, tuple) and len(edges) <= MAX_EDGES and are_edges(alphabet, size, edges)


def check_behaviour(behaviour):
    """Raise the error of a value that is not a behaviour."""
    if not is_behaviour(behaviour):
        raise InvalidBehaviour("not a triple of an alphabet, a size and ascending edges that reach all states")


def log_of(alphabet, *words):
    """Return the settled behaviour whose runs are the beginnings of the words."""
    return logs_from(alphabet, words)


def logs_from(alphabet, words):
    """Return the settled behaviour whose runs are the beginnings of the words in this tuple."""
    check_alphabet(alphabet)
    if not isinstance(words, tuple):
        raise InvalidWord("not a tuple of words")
    for word in words:
        check_word(alphabet, word)
    rows = tree_rows(alphabet, words)
    return settled_form(alphabet, rows, kinds_of_tree(rows, MAX_STATES))


def behaviour_of(alphabet, *edges):
    """Return the behaviour with these edges, as far as they are reached from state 0."""
    return behaviour_from(alphabet, edges)


def behaviour_from(alphabet, edges):
    """Return the behaviour with the edges in this tuple, as far as they are reached from state 0."""
    check_alphabet(alphabet)
    if not isinstance(edges, tuple):
        raise InvalidBehaviour("not a tuple of edges")
    for edge in edges:
        if not is_edge(alphabet, edge):
            raise InvalidBehaviour("an edge is a triple of a state, an action and a state")
    reached = reached_states(edges)
    numbers = {state: number for number, state in enumerate(sorted(reached))}
    kept = {(numbers[state], action, numbers[target]) for state, action, target in edges if state in reached}
    if len(numbers) > MAX_STATES:
        raise TooMany(MAX_STATES)
    if len(kept) > MAX_EDGES:
        raise TooMany(MAX_EDGES)
    return alphabet, len(numbers), tuple(sorted(kept))


def states_behind(behaviour, word):
    """Return the states to which paths along a word of any length lead, ascending."""
    alphabet, _, edges = behaviour
    return led_to(moves_of(alphabet, edges), (0,), word)


def is_run(behaviour, value):
    """Tell whether the value is a run, of any length."""
    check_behaviour(behaviour)
    return is_seen_run(behaviour, value)


def is_seen_run(behaviour, value):
    """Tell whether the value is a run of what is known to be a behaviour."""
    return has_only(behaviour[0], value) and len(states_behind(behaviour, value)) > 0


def check_run(behaviour, run):
    """Raise the error of a value that is not a run."""
    if not is_seen_run(behaviour, run):
        raise InvalidWord("not a run of the behaviour")


def states_after(behaviour, word):
    """Return the states to which paths along the word lead, ascending."""
    check_behaviour(behaviour)
    check_word(behaviour[0], word)
    return states_behind(behaviour, word)


def followers(behaviour, word):
    """Return the actions that can follow the word as a run, ascending."""
    check_behaviour(behaviour)
    check_word(behaviour[0], word)
    return seen_followers(behaviour, word)


def seen_followers(behaviour, word):
    """Return the actions that can follow a word of any length as a run, ascending."""
    alphabet, _, edges = behaviour
    moves = moves_of(alphabet, edges)
    return actions_after(moves, led_to(moves, (0,), word))


def runs(behaviour, *, longest):
    """Yield all runs of at most so many actions, shorter ones first and then ascending."""
    check_behaviour(behaviour)
    check_between(longest, 0, LONGEST)
    alphabet, _, edges = behaviour
    moves = moves_of(alphabet, edges)
    yield ()
    level = [((), (0,))]
    for length in range(1, longest + 1):
        further = []
        for word, states in level:
            for action in alphabet:
                led = following(moves[action], states)
                if led:
                    longer = (*word, action)
                    yield longer
                    # The last level is the longest one by far, and nothing follows it.
                    if length < longest:
                        further.append((longer, led))
        level = further


def seen_steps(behaviour, *, longest):
    """Yield all different steps of the runs of at most so many actions, ascending."""
    check_behaviour(behaviour)
    check_between(longest, 0, LONGEST)
    alphabet, _, edges = behaviour
    moves = moves_of(alphabet, edges)
    found = []
    level = {(0,) * len(alphabet): (0,)}
    for _ in range(longest):
        further = {}
        for counts, states in level.items():
            for at, action in enumerate(alphabet):
                led = following(moves[action], states)
                if led:
                    found.append((counts, action))
                    further.setdefault(one_more(counts, at), []).extend(led)
        level = {counts: tuple(sorted(set(states))) for counts, states in further.items()}
    yield from sorted(found)


def one_more(counts, at):
    """Return the counts with one more of the action at this position."""
    return (*counts[:at], counts[at] + 1, *counts[at + 1:])


def settled(behaviour):
    """Return the behaviour with the same runs and as few states as possible."""
    check_behaviour(behaviour)
    return united_form((behaviour,))


def united(first, *others):
    """Return the settled behaviour whose runs are those of all the behaviours."""
    return all_united((first, *others))


def all_united(behaviours):
    """Return the settled behaviour whose runs are those of all behaviours in this tuple."""
    if not isinstance(behaviours, tuple) or len(behaviours) == 0:
        raise InvalidBehaviour("not a tuple of one or more behaviours")
    check_together(behaviours)
    return united_form(behaviours)


def check_together(behaviours):
    """Raise the errors of values that are not behaviours with one alphabet."""
    for behaviour in behaviours:
        check_behaviour(behaviour)
    for behaviour in behaviours:
        if behaviour[0] != behaviours[0][0]:
            raise InvalidOperation("the behaviours have different alphabets")


def united_form(behaviours):
    """Return the settled behaviour with the runs of all of what are known to be behaviours."""
    alphabet = behaviours[0][0]
    edges, starts = beside(behaviours)
    size = sum([behaviour[1] for behaviour in behaviours])
    rows = set_rows(moves_of(alphabet, edges), size, starts, MAX_SETS)
    return settled_form(alphabet, rows, kinds_of_rows(rows, MAX_STATES))


def run_difference(first, second):
    """Return the first word, by length and then ascending, that is a run of one of the two only, or None."""
    check_together((first, second))
    one = list(moves_of(first[0], first[2]).values())
    other = list(moves_of(first[0], second[2]).values())
    # What follows a set of states is found once, since it comes in many pairs.
    behind_one = {}
    behind_other = {}
    todo = [((0,), (0,))]
    came = [None]
    seen = {todo[0]: True}
    at = 0
    while at < len(todo):
        left, right = todo[at]
        if left not in behind_one:
            behind_one[left] = [following(move, left) for move in one]
        if right not in behind_other:
            behind_other[right] = [following(move, right) for move in other]
        for action, pair in zip(first[0], list(zip(behind_one[left], behind_other[right]))):
            if (len(pair[0]) == 0) != (len(pair[1]) == 0):
                return word_back(came, at, action)
            if pair not in seen and len(pair[0]) > 0:
                if len(seen) == MAX_SETS:
                    raise TooMany(MAX_SETS)
                seen[pair] = True
                todo.append(pair)
                came.append((at, action))
        at += 1
    return None


def word_back(came, at, action):
    """Return the word that leads to a pair, with an action behind it; `came` has what each pair came from."""
    actions = [action]
    while came[at] is not None:
        at, before = came[at]
        actions.append(before)
    return tuple(actions[::-1])
