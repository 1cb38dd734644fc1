"""Words that must be barred: nets that respect a behaviour and bar all of them."""

from leastnet.base.integers import is_integer
from leastnet.base.words import check_word
from leastnet.errors import InvalidOperation, InvalidWord, TooMany
from leastnet.nets.nets import Net
from leastnet.nets.places import first_barred
from leastnet.seen.behaviours import check_behaviour
from leastnet.steps.least import check_both, net_respects
from leastnet.steps.mixtures import seen_of
from leastnet.steps.steps import are_mixtures, first_avoidable, paper_of_word

MAX_WORDS = 200


def barring(behaviour, *words):
    """Return a paper that shows whether all of the words can be barred."""
    return barring_all(behaviour, words)


def barring_all(behaviour, words):
    """Return a paper that shows whether all words in this tuple can be barred."""
    check_behaviour(behaviour)
    check_words(behaviour[0], words)
    check_few(words)
    return paper_of_words(seen_of(behaviour), words)


def check_words(alphabet, words):
    """Raise the error of a value that is not a tuple of words."""
    if not isinstance(words, tuple):
        raise InvalidWord("not a tuple of words")
    for word in words:
        check_word(alphabet, word)


def check_few(words):
    """Raise the error of too many words."""
    if len(words) > MAX_WORDS:
        raise TooMany(MAX_WORDS)


def paper_of_words(seen, words):
    """Return the barring paper of what is known to be a tuple of words, and not too many."""
    alphabet = seen.behaviour[0]
    places = []
    for position, word in enumerate(words):
        if not is_barred(alphabet, places, word):
            place = first_avoidable(seen, word)[1]
            if place is None:
                return "unavoidable", position, paper_of_word(seen, word)[1]
            places.append(place)
    return "net", Net.of(alphabet, tuple(places))


def is_barred(alphabet, places, word):
    """Tell whether one of the places bars the word."""
    for place in places:
        if first_barred(alphabet, place, word) is not None:
            return True
    return False


def is_barring(behaviour, words, value):
    """Tell whether the value is a barring paper for the words in this tuple."""
    check_behaviour(behaviour)
    check_words(behaviour[0], words)
    if not isinstance(value, tuple) or len(value) < 2:
        return False
    if value[0] == "net":
        return len(value) == 2 and is_barring_net(behaviour, words, value[1])
    if value[0] != "unavoidable" or len(value) != 3:
        return False
    _, position, mixtures = value
    if not is_integer(position) or not 0 <= position < len(words):
        return False
    return are_mixtures(behaviour, words[position], mixtures)


def is_barring_net(behaviour, words, value):
    """Tell whether the value is a net that respects the behaviour and bars all of the words."""
    if not isinstance(value, Net) or value.alphabet != behaviour[0]:
        return False
    for word in words:
        if word in value:
            return False
    return net_respects(behaviour, value)


def thinned(behaviour, net, words):
    """Return a net of some of the places that bars all words in this tuple, none of them without need."""
    check_both(behaviour, net)
    alphabet = net.alphabet
    check_words(alphabet, words)
    if not is_barring_net(behaviour, words, net):
        raise InvalidOperation("the net does not respect the behaviour, or does not bar all of the words")
    barred = [[first_barred(alphabet, place, word) is not None for place in net.places] for word in words]
    return Net.of(alphabet, tuple([net.places[at] for at in needed(barred, len(net.places))]))


def needed(barred, many):
    """Return the list of the columns that are left if each is left out that no row needs: each row has one."""
    left = [sum(row) for row in barred]
    kept = []
    for at in range(many):
        rows = [number for number, row in enumerate(barred) if row[at]]
        if all([left[number] > 1 for number in rows]):
            for number in rows:
                left[number] -= 1
        else:
            kept.append(at)
    return kept
