"""Exact nets, whose markings are the states of a behaviour, and papers that show that there is none."""

from leastnet.base.fractions import is_fraction, solved, total_of
from leastnet.base.integers import are_integers, sum_of_products
from leastnet.base.rows import eliminated
from leastnet.compare.sums import difference, first_words, strictest, told_rows
from leastnet.hulls.simplex import Hull, as_fractions
from leastnet.nets.nets import Net
from leastnet.nets.places import change_of, tokens_at
from leastnet.seen.automata import moves_of
from leastnet.seen.behaviours import check_behaviour
from leastnet.seen.circles import ends_before
from leastnet.seen.respect import counted
from leastnet.steps.mixtures import are_parts, states_of_run


class Told:
    """A behaviour with a word that leads to each state, and the sums of these words that are told by the state.

    The marks of a state are its sums for each of the reduced rows: what differs in no mark differs in no sum.
    """

    def __init__(self, behaviour):
        words = first_words(behaviour)
        counts = [counted(behaviour[0], word) for word in words]
        rows = told_rows(behaviour, counts)
        self.behaviour = behaviour
        self.words = words
        self.counts = counts
        self.rows = rows
        self.marks = [tuple([sum_of_products(row, one) for row in rows]) for one in counts]

    def place_of(self, factors):
        """Return the strictest place whose change is the sum of so many times each row."""
        wide = len(self.behaviour[0])
        u = [sum([factor * row[at] for factor, row in zip(factors, self.rows)]) for at in range(wide)]
        return strictest(self.behaviour, u, [sum_of_products(u, one) for one in self.counts])

    def twins(self):
        """Return two states with equal marks, or None."""
        known = {}
        for state, mark in enumerate(self.marks):
            if mark in known:
                return known[mark], state
            known[mark] = state
        return None

    def pairs_for(self, target):
        """Return pairs of the behaviour whose vectors have these fractions as their sum."""
        edges = self.behaviour[2]
        vectors = [difference(self.behaviour, self.counts, edge) for edge in edges]
        chosen = eliminated(vectors, len(target))[1]
        if not chosen:
            return ()
        rows = [tuple([below * vectors[at][column] for at in chosen]) for column, (_, below) in enumerate(target)]
        multiples = solved(tuple(rows), tuple([top for top, _ in target]))[1]
        pairs = []
        for at, multiple in zip(chosen, multiples):
            if multiple[0] != 0:
                state, action, behind = edges[at]
                pairs.append((multiple, (*self.words[state], action), self.words[behind]))
        return tuple(pairs)


def searched(told):
    """Return (conflict, places): what shows that there is no exact net, or None and the places of one.

    A conflict is a pair of states that no sum tells apart, or a triple of a state, an action that no place bars
    in it, and the weights of the states with an edge of this action whose mixture is told to be this state.
    """
    twins = told.twins()
    if twins is not None:
        return twins, []
    alphabet = told.behaviour[0]
    places = [told.place_of([int(at == other) for other in range(len(told.rows))]) for at in range(len(told.rows))]
    for action in alphabet:
        conflict, places = barring_places(told, places, action)
        if conflict is not None:
            return conflict, []
    return None, places


def barring_places(told, places, action):
    """Return (conflict, places): the places that are there, and what else is needed to bar the action."""
    alphabet, size, _ = told.behaviour
    ends = ends_before(told.behaviour, action)
    if not ends:
        takes = tuple([int(other == action) for other in alphabet])
        return None, [*places, (0, takes, takes)]
    hull = Hull([told.marks[state] for state in ends], ())
    found = list(places)
    for state in range(size):
        if state not in ends and not is_barred(found, told.counts[state], alphabet.index(action)):
            weights, bound = hull.mix(told.marks[state])
            if bound is None:
                return (state, action, {end: weights[at] for at, end in enumerate(ends) if at in weights}), []
            found.append(told.place_of([-factor for factor in bound[0]]))
    return None, found


def is_barred(places, counts, at):
    """Tell whether one of the places does not allow the step of the action at this position."""
    for place in places:
        if tokens_at(place, counts) < place[1][at]:
            return True
    return False


def exact_paper(behaviour):
    """Return a net that is exact for the behaviour, or a paper that shows that there is none."""
    check_behaviour(behaviour)
    told = Told(behaviour)
    conflict, places = searched(told)
    if conflict is not None:
        return paper_of_states(told, conflict) if len(conflict) == 2 else paper_of_action(told, conflict)
    net = Net.of(behaviour[0], tuple(places))
    return "net", net, tuple([tuple([tokens_at(place, counts) for place in net.places]) for counts in told.counts])


def paper_of_states(told, conflict):
    """Return the paper of two states that no net tells apart."""
    one, other = conflict
    target = [(more - less, 1) for more, less in zip(told.counts[one], told.counts[other])]
    return "states", told.words[one], told.words[other], told.pairs_for(target)


def paper_of_action(told, conflict):
    """Return the paper of a state and an action that no net bars in it."""
    state, action, weights = conflict
    parts = tuple([(weights[end], told.words[end]) for end in sorted(weights)])
    factors = [(1, 1), *[(-top, below) for (top, below), _ in parts]]
    rows = [told.counts[state], *[told.counts[end] for end in sorted(weights)]]
    target = total_of(factors, rows, len(told.counts[state]))
    return "action", told.words[state], action, parts, told.pairs_for(target)


def has_exact_net(behaviour):
    """Tell whether there is a net that is exact for the behaviour, with whatever number of places."""
    check_behaviour(behaviour)
    return searched(Told(behaviour))[0] is None


def is_exact_paper(behaviour, value):
    """Tell whether the value is an exact paper of the behaviour."""
    check_behaviour(behaviour)
    if not isinstance(value, tuple) or len(value) < 3:
        return False
    if value[0] == "net":
        return len(value) == 3 and is_exact(behaviour, value[1], value[2])
    moves = moves_of(behaviour[0], behaviour[2])
    if value[0] == "states":
        return len(value) == 4 and is_paper_of_states(moves, value[1], value[2], value[3])
    return value[0] == "action" and len(value) == 5 and is_paper_of_action(moves, value)


def is_exact(behaviour, net, markings):
    """Tell whether the values are a net that is exact for the behaviour, and its markings of all states."""
    alphabet, size, edges = behaviour
    if not isinstance(net, Net) or net.alphabet != alphabet:
        return False
    places = net.places
    if not are_markings(markings, size, len(places)) or markings[0] != tuple([place[0] for place in places]):
        return False
    changes = {action: tuple([change_of(place)[at] for place in places]) for at, action in enumerate(alphabet)}
    allowed = {(state, action): True for state, action, _ in edges}
    for state, action, behind in edges:
        if markings[behind] != tuple([one + more for one, more in zip(markings[state], changes[action])]):
            return False
    for state in range(size):
        for at, action in enumerate(alphabet):
            lacking = any([many < place[1][at] for many, place in zip(markings[state], places)])
            if lacking == ((state, action) in allowed):
                return False
    return True


def are_markings(value, size, wide):
    """Tell whether the value is a tuple of so many different tuples of so many integers."""
    if not isinstance(value, tuple) or len(value) != size:
        return False
    known = {}
    for marking in value:
        if not isinstance(marking, tuple) or len(marking) != wide or not are_integers(marking) or marking in known:
            return False
        known[marking] = True
    return True


def is_paper_of_states(moves, first, second, pairs):
    """Tell whether the words can lead to two different states that no net tells apart, as the pairs show."""
    one = states_of_run(moves, first)
    other = states_of_run(moves, second)
    if len(one) == 0 or len(other) == 0 or len(one) == 1 and one == other:
        return False
    alphabet = tuple(moves)
    wanted = [more - less for more, less in zip(counted(alphabet, first), counted(alphabet, second))]
    return is_sum_of(moves, (), pairs, (0, *wanted))


def is_paper_of_action(moves, value):
    """Tell whether the word can lead to a state without this action that no net bars there, as the rest shows."""
    _, word, action, parts, pairs = value
    alphabet = tuple(moves)
    if action not in alphabet or all([state in moves[action] for state in states_of_run(moves, word)]):
        return False
    return are_parts(moves, action, parts) and is_sum_of(moves, parts, pairs, (1, *counted(alphabet, word)))


def is_sum_of(moves, parts, pairs, target):
    """Tell whether the value has pairs, and the target is the sum of the parts, each behind a 1, and of these."""
    if not are_pairs(moves, pairs):
        return False
    alphabet = tuple(moves)
    rows = [(1, *counted(alphabet, run)) for _, run in parts]
    for _, first, second in pairs:
        rows.append((0, *[one - less for one, less in zip(counted(alphabet, first), counted(alphabet, second))]))
    return total_of([part[0] for part in (*parts, *pairs)], rows, len(target)) == as_fractions(target)


def are_pairs(moves, value):
    """Tell whether the value is a tuple of triples of a fraction other than 0 and words with a common state."""
    if not isinstance(value, tuple):
        return False
    for pair in value:
        if not isinstance(pair, tuple) or len(pair) != 3 or not is_fraction(pair[0]) or pair[0][0] == 0:
            return False
        behind = states_of_run(moves, pair[2])
        if not any([state in behind for state in states_of_run(moves, pair[1])]):
            return False
    return True
