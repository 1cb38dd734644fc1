"""Nets: places that allow a word together."""

from leastnet.base.integers import check_at_least, check_between
from leastnet.base.words import check_action, check_alphabet, check_word, has_only
from leastnet.errors import Avoidable, InvalidOperation, InvalidPlace, TooMany
from leastnet.nets.places import change_of, is_any_place
from leastnet.seen.behaviours import LONGEST, MAX_STATES

MAX_PLACES = 200


def check_places(alphabet, places):
    """Raise the errors of values that are not places of one alphabet."""
    check_alphabet(alphabet)
    for place in places:
        if not is_any_place(place) or len(place[1]) != len(alphabet):
            raise InvalidPlace("not a place of the alphabet")


def moves_by_action(alphabet, places):
    """Return a dict from the actions to what they take of the places, and by how much they change them."""
    changes = [change_of(place) for place in places]
    moves = {}
    for at, action in enumerate(alphabet):
        moves[action] = tuple([place[1][at] for place in places]), tuple([change[at] for change in changes])
    return moves


def first_lacking(marking, takes):
    """Return the position of the first number of tokens that is less than what is taken, or None."""
    for at, (many, taken) in enumerate(zip(marking, takes)):
        if many < taken:
            return at
    return None


def changed(marking, changes):
    """Return the marking with these changes."""
    return tuple([many + change for many, change in zip(marking, changes)])


class Net:
    """An alphabet and ascending places; a word is a run if all of them allow it."""

    MOST = 200

    def __init__(self, alphabet, *places):
        check_places(alphabet, places)
        kept = tuple(sorted(set(places)))
        if len(kept) > MAX_PLACES:
            raise TooMany(MAX_PLACES)
        self._alphabet = alphabet
        self._places = kept
        self._moves = moves_by_action(alphabet, kept)

    @classmethod
    def of(cls, alphabet, places):
        """Return the net with the places in this tuple."""
        check_alphabet(alphabet)
        if not isinstance(places, tuple):
            raise InvalidPlace("not a tuple of places")
        return cls(alphabet, *places)

    @classmethod
    def bound(cls, alphabet, action, most):
        """Return the net that allows the action at most so often."""
        check_alphabet(alphabet)
        check_action(alphabet, action)
        check_at_least(most, 0)
        takes = tuple([1 if other == action else 0 for other in alphabet])
        return cls(alphabet, (most, takes, (0,) * len(alphabet)))

    @property
    def alphabet(self):
        """The alphabet."""
        return self._alphabet

    @property
    def places(self):
        """The places, ascending."""
        return self._places

    def _walk(self, word):
        """Return (marking, None) after a run, and otherwise (position, place) of what is not allowed first."""
        marking = self._start()
        for position, action in enumerate(word):
            takes, changes = self._moves[action]
            lacking = first_lacking(marking, takes)
            if lacking is not None:
                return position, self._places[lacking]
            marking = changed(marking, changes)
        return marking, None

    def _start(self):
        """Return the marking after no action."""
        return tuple([place[0] for place in self._places])

    def _steps(self, marking):
        """Return the list of the enabled actions, ascending, with the markings behind them."""
        steps = []
        for action, (takes, changes) in self._moves.items():
            if first_lacking(marking, takes) is None:
                steps.append((action, changed(marking, changes)))
        return steps

    def _marking(self, word):
        """Return the marking after the word, and raise the errors of what is not a run."""
        check_word(self._alphabet, word)
        marking, place = self._walk(word)
        if place is not None:
            raise Avoidable(place)
        return marking

    def __call__(self, word):
        """Return the marking after the word."""
        return self._marking(word)

    def barred(self, word):
        """Return None for a run, and otherwise the first position and place that do not allow the word."""
        check_word(self._alphabet, word)
        position, place = self._walk(word)
        return None if place is None else (position, place)

    def enabled(self, word):
        """Return the actions that can follow the word in a run, ascending."""
        return tuple([action for action, _ in self._steps(self._marking(word))])

    def runs(self, *, longest=4):
        """Yield all runs of at most so many actions, by length and then ascending."""
        check_between(longest, 0, LONGEST)
        yield ()
        known = {}
        level = [((), self._start())]
        for length in range(1, longest + 1):
            further = []
            for word, marking in level:
                if marking not in known:
                    known[marking] = self._steps(marking)
                for action, behind in known[marking]:
                    longer = (*word, action)
                    yield longer
                    # The last level is the longest one by far, and nothing follows it.
                    if length < longest:
                        further.append((longer, behind))
            level = further

    def graph(self, *, most=150):
        """Return the behaviour whose states are the markings that runs reach."""
        check_between(most, 1, MAX_STATES)
        order = [self._start()]
        numbers = {order[0]: 0}
        edges = []
        state = 0
        while state < len(order):
            steps = self._steps(order[state])
            for action, marking in steps:
                if marking not in numbers:
                    if len(order) == most:
                        raise TooMany(most)
                    numbers[marking] = len(order)
                    order.append(marking)
                edges.append((state, action, numbers[marking]))
            state += 1
        return self._alphabet, len(order), tuple(edges)

    def __and__(self, other):
        if not isinstance(other, Net) or other._alphabet != self._alphabet:
            raise InvalidOperation("not a net with the same alphabet")
        places = self._places + other._places
        return Net(self._alphabet, *places)

    def __contains__(self, value):
        return has_only(self._alphabet, value) and self._walk(value)[1] is None

    def __eq__(self, other):
        return isinstance(other, Net) and self._alphabet == other._alphabet and self._places == other._places

    def __bool__(self):
        return bool(self._places)

    def __len__(self):
        return len(self._places)

    def __str__(self):
        return f"net of {len(self._places)} places"
