"""Actions, alphabets, words and vectors."""

from math import comb

from leastnet.base.integers import are_integers, check_integer, sum_of_products
from leastnet.errors import InvalidAlphabet, InvalidVector, InvalidWord, TooMany, UnknownName

MAX_ACTIONS = 5
MAX_WORD = 200
MAX_LETTERS = 8


def is_action(value):
    """Tell whether the value is a string of one to eight lowercase letters."""
    if not isinstance(value, str) or len(value) > MAX_LETTERS:
        return False
    # Only both tests together leave nothing but a to z.
    return value.isascii() and value.isalpha() and value.islower()


def is_alphabet(value):
    """Tell whether the value is an ascending tuple of one to five actions."""
    if not isinstance(value, tuple) or not 1 <= len(value) <= MAX_ACTIONS:
        return False
    before = ""
    for action in value:
        if not is_action(action) or action <= before:
            return False
        before = action
    return True


def check_alphabet(alphabet):
    """Raise the error of a value that is not an alphabet."""
    if not is_alphabet(alphabet):
        raise InvalidAlphabet("not an ascending tuple of one to five actions")


def make_alphabet(*actions):
    """Return the alphabet of these actions, in any order and perhaps repeated."""
    return alphabet_from(actions)


def alphabet_from(actions):
    """Return the alphabet of the actions in this tuple."""
    if not isinstance(actions, tuple):
        raise InvalidAlphabet("not a tuple of actions")
    for action in actions:
        if not is_action(action):
            raise InvalidAlphabet("an action has one to eight letters from a to z")
    alphabet = tuple(sorted(set(actions)))
    check_alphabet(alphabet)
    return alphabet


def has_only(alphabet, value):
    """Tell whether the value is a tuple of actions of the alphabet."""
    if not isinstance(value, tuple):
        return False
    for action in value:
        if action not in alphabet:
            return False
    return True


def is_word(alphabet, value):
    """Tell whether the value is a word of the alphabet, of any length."""
    check_alphabet(alphabet)
    return has_only(alphabet, value)


def check_word(alphabet, word):
    """Raise the error of a value that is not a word with at most 200 actions."""
    if not has_only(alphabet, word):
        raise InvalidWord("not a tuple of actions of the alphabet")
    if len(word) > MAX_WORD:
        raise InvalidWord("a word has at most 200 actions")


def check_action(alphabet, action):
    """Raise the error of a value that is not an action of the alphabet."""
    if action not in alphabet:
        raise UnknownName(action)


def counts_of(alphabet, word):
    """Return how often each action occurs in the word."""
    check_alphabet(alphabet)
    check_word(alphabet, word)
    return tuple([word.count(action) for action in alphabet])


def is_vector(value):
    """Tell whether the value is a tuple of one to five integers."""
    return isinstance(value, tuple) and 1 <= len(value) <= MAX_ACTIONS and are_integers(value)


def is_counts(value):
    """Tell whether the value is a vector without a number below 0."""
    return is_vector(value) and min(value) >= 0


def check_vectors(vectors):
    """Raise the error of vectors that are none, or not as long as the first one."""
    for vector in vectors:
        if not is_vector(vector) or len(vector) != len(vectors[0]):
            raise InvalidVector("not vectors of one length")


def check_counts(wide, counts):
    """Raise the error of a value that is not a counts vector with so many numbers."""
    if not is_counts(counts) or len(counts) != wide:
        raise InvalidVector("not a vector with an integer of at least 0 for each action")


def plus(first, *others):
    """Return the sum of the vectors."""
    check_vectors((first, *others))
    total = first
    for other in others:
        total = tuple([one + more for one, more in zip(total, other)])
    return total


def minus(first, second):
    """Return the first vector less the second one."""
    check_vectors((first, second))
    return tuple([one - less for one, less in zip(first, second)])


def times(number, vector):
    """Return the vector with each integer multiplied by the number."""
    check_integer(number)
    check_vectors((vector,))
    return tuple([number * one for one in vector])


def dot(first, second):
    """Return the sum of the products of the integers of two vectors."""
    check_vectors((first, second))
    return sum_of_products(first, second)


def check_arrangement(alphabet, counts):
    """Raise the errors of counts from which no words are made."""
    check_alphabet(alphabet)
    check_counts(len(alphabet), counts)
    if sum(counts) > MAX_WORD:
        raise TooMany(MAX_WORD)


def first_arrangement(alphabet, counts):
    """Return the ascending list of the actions, each as often as counted."""
    actions = []
    for action, many in zip(alphabet, counts):
        actions.extend([action] * many)
    return actions


def next_arrangement(actions):
    """Return the list of the same actions that comes next in ascending order, or None."""
    at = len(actions) - 2
    while at >= 0 and actions[at] >= actions[at + 1]:
        at -= 1
    if at < 0:
        return None
    # What stands behind `at` descends, so its last greater action is its least one.
    other = len(actions) - 1
    while actions[other] <= actions[at]:
        other -= 1
    behind = actions[at + 1:other] + [actions[at]] + actions[other + 1:]
    return actions[:at] + [actions[other]] + behind[::-1]


def words_with(alphabet, counts):
    """Yield all words with these counts, ascending."""
    check_arrangement(alphabet, counts)
    actions = first_arrangement(alphabet, counts)
    while actions is not None:
        yield tuple(actions)
        actions = next_arrangement(actions)


def count_words(alphabet, counts):
    """Return how many words have these counts."""
    check_arrangement(alphabet, counts)
    length = 0
    ways = 1
    for many in counts:
        length = length + many
        ways = ways * comb(length, many)
    return ways
