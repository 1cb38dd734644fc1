"""Sets of states that runs lead to, and the settled form that they give."""

from leastnet.errors import TooMany


def moves_of(alphabet, edges):
    """Return for each action a dict from states to the ascending list of the states to which its edges lead."""
    moves = {action: {} for action in alphabet}
    for state, action, target in edges:
        moves[action].setdefault(state, []).append(target)
    return moves


def following(move, states):
    """Return the ascending tuple of the states to which edges of one action lead from these states."""
    if len(states) == 1:
        return tuple(move.get(states[0], ()))
    return tuple(sorted({target for state in states for target in move.get(state, ())}))


def led_to(moves, states, word):
    """Return the ascending tuple of the states to which paths along the word lead from these states."""
    for action in word:
        if not states:
            break
        states = following(moves[action], states)
    return states


def actions_after(moves, states):
    """Return the ascending tuple of the actions that have an edge from one of these states."""
    found = []
    for action, move in moves.items():
        if any([state in move for state in states]):
            found.append(action)
    return tuple(found)


def beside(behaviours):
    """Return the edges of the behaviours with the states of one behind those of the other, and the first states."""
    edges = []
    starts = []
    before = 0
    for _, size, more in behaviours:
        starts.append(before)
        edges.extend([(before + state, action, before + target) for state, action, target in more])
        before = before + size
    return edges, tuple(starts)


def set_rows(moves, start, most):
    """Return a row for each set of states that runs lead to, in the order of their first runs.

    A row has for each action the number of the next set, or -1. More than `most` sets raise an error.
    """
    numbers = {start: 0}
    order = [start]
    rows = []
    while len(rows) < len(order):
        states = order[len(rows)]
        row = []
        for move in moves.values():
            further = following(move, states)
            if further and further not in numbers:
                if len(order) == most:
                    raise TooMany(most)
                numbers[further] = len(order)
                order.append(further)
            row.append(numbers[further] if further else -1)
        rows.append(row)
    return rows


def tree_rows(alphabet, words):
    """Return a row for each beginning of the words; the rows that a row leads to stand behind it."""
    columns = {action: column for column, action in enumerate(alphabet)}
    rows = [[-1] * len(alphabet)]
    for word in words:
        row = rows[0]
        for action in word:
            column = columns[action]
            if row[column] < 0:
                row[column] = len(rows)
                rows.append([-1] * len(alphabet))
            row = rows[row[column]]
    return rows


def kinds_behind(kinds, row):
    """Return the kinds of the rows that a row leads to, -1 where there is none."""
    return tuple([kinds[other] if other >= 0 else -1 for other in row])


def kinds_of_tree(rows, most):
    """Return for each row of a tree a number that it shares with exactly the rows that allow the same words."""
    kinds = [-1] * len(rows)
    known = {}
    for at in reversed(range(len(rows))):
        kinds[at] = known.setdefault(kinds_behind(kinds, rows[at]), len(known))
    if len(known) > most:
        raise TooMany(most)
    return kinds


def kinds_of_rows(rows, most):
    """Return for each row a number that it shares with exactly the rows that allow the same words."""
    kinds = [0] * len(rows)
    many = 1
    while True:
        known = {}
        finer = []
        for kind, row in zip(kinds, rows):
            finer.append(known.setdefault((kind, kinds_behind(kinds, row)), len(known)))
        # Kinds are only ever divided, so these are too many already.
        if len(known) > most:
            raise TooMany(most)
        if len(known) == many:
            return finer
        kinds = finer
        many = len(known)


def settled_form(alphabet, rows, kinds):
    """Return the behaviour with a state for each kind, numbered by the first words that lead to it."""
    behind = {}
    for kind, row in zip(kinds, rows):
        behind.setdefault(kind, kinds_behind(kinds, row))
    order = [kinds[0]]
    numbers = {kinds[0]: 0}
    edges = []
    state = 0
    while state < len(order):
        further = behind[order[state]]
        for action, kind in zip(alphabet, further):
            if kind < 0:
                continue
            if kind not in numbers:
                numbers[kind] = len(order)
                order.append(kind)
            edges.append((state, action, numbers[kind]))
        state += 1
    return alphabet, len(order), tuple(edges)
