"""Sets of states that runs lead to, and the settled form that they give."""

from leastnet.errors import TooMany

TOGETHER = 6
ALL_TOGETHER = 63
MAX_BITS = 64


def moves_of(alphabet, edges):
    """Return for each action a dict from states to the ascending list of the states to which its edges lead."""
    moves = {action: {} for action in alphabet}
    for state, action, target in edges:
        moves[action].setdefault(state, []).append(target)
    return moves


def following(move, states):
    """Return the ascending tuple of the states to which edges of one action lead from these states."""
    if len(states) == 1:
        return tuple(move.get(states[0], ()))
    return tuple(sorted({target for state in states for target in move.get(state, ())}))


def led_to(moves, states, word):
    """Return the ascending tuple of the states to which paths along the word lead from these states."""
    for action in word:
        if not states:
            break
        states = following(moves[action], states)
    return states


def actions_after(moves, states):
    """Return the ascending tuple of the actions that have an edge from one of these states."""
    found = []
    for action, move in moves.items():
        if any([state in move for state in states]):
            found.append(action)
    return tuple(found)


def beside(behaviours):
    """Return the edges of the behaviours with the states of one behind those of the other, and the first states."""
    edges = []
    starts = []
    before = 0
    for _, size, more in behaviours:
        starts.append(before)
        edges.extend([(before + state, action, before + target) for state, action, target in more])
        before = before + size
    return edges, tuple(starts)


def single_targets(table):
    """Return a dict from states to the one state to which each leads, None if there are two anywhere."""
    if any([len(targets) > 1 for targets in table.values()]):
        return None
    return {state: targets[0] for state, targets in table.items()}


class Steps:
    """The steps of one action, from sets of few states that are told by the bits of a number.

    Some bits together are looked up, in dicts that are filled as far as is needed.
    """

    def __init__(self, table, size):
        self.masks = [0] * (size + TOGETHER)
        for state, targets in table.items():
            for target in targets:
                self.masks[state] = self.masks[state] | 1 << target
        self.known = [{0: 0} for _ in range(size // TOGETHER + 1)]

    def behind(self, states):
        """Return the set of the states to which edges lead from these states."""
        found = 0
        for at, known in enumerate(self.known):
            low = states & ALL_TOGETHER
            if low not in known:
                self._look_up(at, low)
            found = found | known[low]
            states = states >> TOGETHER
        return found

    def _look_up(self, at, low):
        """Fill in what follows these bits at this position."""
        found = 0
        for bit in range(TOGETHER):
            if low >> bit & 1:
                found = found | self.masks[at * TOGETHER + bit]
        self.known[at][low] = found


def set_rows(moves, size, starts, most):
    """Return a row for each set of states that runs lead to, in the order of their first runs.

    A row has for each action the number of the next set, or -1. More than `most` sets raise an error. The starts
    belong to graphs that stand beside one another, in ascending order, with so many states together.
    """
    tables = list(moves.values())
    single = [single_targets(table) for table in tables]
    if all([table is not None for table in single]):
        # Of each graph there is one state at most, so they are different and ascending already.
        return rows_of_sets(starts, (), lambda states: [single_following(table, states) for table in single], most)
    if size > MAX_BITS:
        return rows_of_sets(starts, (), lambda states: [following(table, states) for table in tables], most)
    steps = [Steps(table, size) for table in tables]
    first = sum([1 << start for start in starts])
    return rows_of_sets(first, 0, lambda states: [step.behind(states) for step in steps], most)


def single_following(table, states):
    """Return the tuple of the states to which states lead, each of them to one at most."""
    return tuple([table[state] for state in states if state in table])


def rows_of_sets(start, empty, behind, most):
    """Return the rows of the sets that are found from the start; `behind` gives what follows a set, by each action."""
    numbers = {start: 0, empty: -1}
    order = [start]
    rows = []
    while len(rows) < len(order):
        row = []
        found = behind(order[len(rows)])
        for further in found:
            number = numbers.get(further)
            if number is None:
                number = len(order)
                if number == most:
                    raise TooMany(most)
                numbers[further] = number
                order.append(further)
            row.append(number)
        rows.append(row)
    return rows


def tree_rows(alphabet, words):
    """Return a row for each beginning of the words; the rows that a row leads to stand behind it."""
    columns = {action: column for column, action in enumerate(alphabet)}
    rows = [[-1] * len(alphabet)]
    for word in words:
        row = rows[0]
        for action in word:
            column = columns[action]
            if row[column] < 0:
                row[column] = len(rows)
                rows.append([-1] * len(alphabet))
            row = rows[row[column]]
    return rows


def kinds_of_tree(rows, most):
    """Return for each row of a tree a number that it shares with exactly the rows that allow the same words.

    As of the next function, behind them stands a -1, which so is also what is found at the position -1.
    """
    kinds = [-1] * (len(rows) + 1)
    known = {}
    for at in reversed(range(len(rows))):
        behind = tuple([kinds[other] for other in rows[at]])
        kinds[at] = known.setdefault(behind, len(known))
    if len(known) > most:
        raise TooMany(most)
    return kinds


def kinds_of_rows(rows, most):
    """Return for each row a number that it shares with exactly the rows that allow the same words, and then -1."""
    columns = list(zip(*rows))
    kinds = [0] * len(rows) + [-1]
    many = 1
    while True:
        known = {}
        finer = []
        behind = [[kinds[other] for other in column] for column in columns]
        for key in zip(kinds, *behind):
            finer.append(known.setdefault(key, len(known)))
        finer.append(-1)
        # Kinds are only ever divided, so these are too many already.
        if len(known) > most:
            raise TooMany(most)
        if len(known) == many:
            return finer
        kinds = finer
        many = len(known)


def settled_form(alphabet, rows, kinds):
    """Return the behaviour with a state for each kind, numbered by the first words that lead to it."""
    behind = {}
    for kind, row in zip(kinds, rows):
        if kind not in behind:
            behind[kind] = [kinds[other] for other in row]
    order = [kinds[0]]
    numbers = {kinds[0]: 0}
    edges = []
    state = 0
    while state < len(order):
        further = behind[order[state]]
        for action, kind in zip(alphabet, further):
            if kind < 0:
                continue
            if kind not in numbers:
                numbers[kind] = len(order)
                order.append(kind)
            edges.append((state, action, numbers[kind]))
        state += 1
    return alphabet, len(order), tuple(edges)
