"""Places with tokens, and the steps that they allow."""

from leastnet.base.integers import check_at_least, common_divisor, divided_by, is_integer, sum_of_products
from leastnet.base.words import check_action, check_alphabet, check_counts, check_word, is_counts, minus, plus, times
from leastnet.errors import InvalidPlace


def is_any_place(value):
    """Tell whether the value is a place of any alphabet."""
    if not isinstance(value, tuple) or len(value) != 3:
        return False
    start, takes, gives = value
    if not is_integer(start) or start < 0:
        return False
    return is_counts(takes) and is_counts(gives) and len(takes) == len(gives)


def is_place(alphabet, value):
    """Tell whether the value is a place of the alphabet."""
    check_alphabet(alphabet)
    return is_any_place(value) and len(value[1]) == len(alphabet)


def check_any_place(place):
    """Raise the error of a value that is not a place of any alphabet."""
    if not is_any_place(place):
        raise InvalidPlace("not a triple of a start and two counts vectors of one length")


def check_place(alphabet, place):
    """Raise the errors of an alphabet and of a value that is not a place of it."""
    if not is_place(alphabet, place):
        raise InvalidPlace("not a place of the alphabet")


def is_plain(place):
    """Tell whether no action both takes and gives."""
    check_any_place(place)
    for taken, given in zip(place[1], place[2]):
        if taken > 0 and given > 0:
            return False
    return True


def make_place(alphabet, *, start=0, takes=None, gives=None):
    """Return the place of these numbers, with 0 for each action that is no key."""
    check_alphabet(alphabet)
    check_at_least(start, 0)
    check_numbers(alphabet, takes)
    check_numbers(alphabet, gives)
    return start, numbers_of(alphabet, takes), numbers_of(alphabet, gives)


def check_numbers(alphabet, numbers):
    """Raise the errors of a value that is neither None nor a dict from actions to numbers."""
    if numbers is None:
        return
    if not isinstance(numbers, dict):
        raise InvalidPlace("neither a dict nor None")
    for action in numbers:
        check_action(alphabet, action)
    for number in numbers.values():
        check_at_least(number, 0)


def numbers_of(alphabet, numbers):
    """Return the number of each action, 0 for one that is no key."""
    if numbers is None:
        return (0,) * len(alphabet)
    return tuple([numbers.get(action, 0) for action in alphabet])


def change_of(place):
    """Return by how much each action changes the tokens."""
    check_any_place(place)
    return minus(place[2], place[1])


def tokens(place, counts):
    """Return the tokens at these counts."""
    check_any_place(place)
    check_counts(len(place[1]), counts)
    return tokens_at(place, counts)


def tokens_at(place, counts):
    """Return the tokens at these counts; both are known to be right."""
    start, takes, gives = place
    return start + sum_of_products(gives, counts) - sum_of_products(takes, counts)


def allows_step(alphabet, place, counts, action):
    """Tell whether the tokens at these counts are at least what the action takes."""
    check_place(alphabet, place)
    check_counts(len(alphabet), counts)
    check_action(alphabet, action)
    return tokens_at(place, counts) >= place[1][alphabet.index(action)]


def first_barred(alphabet, place, word):
    """Return the position of the first step of the word that the place does not allow, or None."""
    check_place(alphabet, place)
    check_word(alphabet, word)
    left, takes, gives = place
    for position, action in enumerate(word):
        at = alphabet.index(action)
        if left < takes[at]:
            return position
        left = left - takes[at] + gives[at]
    return None


def multiple(number, place):
    """Return the place with all numbers multiplied by an integer of at least 1."""
    check_at_least(number, 1)
    check_any_place(place)
    start, takes, gives = place
    return number * start, times(number, takes), times(number, gives)


def divided(place):
    """Return the place with all numbers divided by their greatest common divisor."""
    check_any_place(place)
    start, takes, gives = place
    divisor = common_divisor((start, *takes, *gives))
    if divisor == 0:
        return place
    return start // divisor, divided_by(divisor, takes), divided_by(divisor, gives)


def sum_of_places(first, *others):
    """Return the place with the sums of all starts, takes and gives."""
    check_any_place(first)
    for place in others:
        if not is_any_place(place) or len(place[1]) != len(first[1]):
            raise InvalidPlace("not places of one length")
    start, takes, gives = first
    for more, taken, given in others:
        start = start + more
        takes = plus(takes, taken)
        gives = plus(gives, given)
    return start, takes, gives
