"""Texts of values, and the values that are read back from them."""

from leastnet.base.fractions import check_fraction, is_fraction
from leastnet.base.words import MAX_ACTIONS, MAX_WORD, check_alphabet, check_word, has_only, is_alphabet, is_vector
from leastnet.errors import InvalidNet, InvalidOperation, InvalidVector, ParseError
from leastnet.nets.nets import MAX_PLACES, Net, changed, moves_by_action
from leastnet.nets.places import check_place, is_place
from leastnet.seen.behaviours import check_behaviour, is_behaviour
from leastnet.steps.mixtures import is_above_zero

MAX_DIGITS = 40
PIECE = 10 ** 60


def decimal(number):
    """Return the digits of an integer of any size; Python itself writes only those of some thousand digits."""
    pieces = []
    left = abs(number)
    while left >= PIECE:
        left, piece = divmod(left, PIECE)
        pieces.append(str(piece).zfill(60))
    pieces.append(str(left))
    return ("-" if number < 0 else "") + "".join(pieces[::-1])


def integer_in(text):
    """Return the integer of a text, which must be a string."""
    digits = text[1:] if text.startswith("-") else text
    if not digits.isascii() or not digits.isdigit() or len(digits) > MAX_DIGITS:
        raise ParseError("not an integer of at most forty digits")
    if digits.startswith("0") and text != "0":
        raise ParseError("an integer has neither leading zeros nor a sign before 0")
    return int(text)


def check_text(text):
    """Raise the error of a value that is not a string."""
    if not isinstance(text, str):
        raise ParseError("not a string")


def parts_in(text, sign, many):
    """Return the list of so many parts of the text, which are separated by this sign."""
    parts = text.split(sign)
    if len(parts) != many:
        raise ParseError("not as many parts as there must be")
    return parts


def format_word(alphabet, word):
    """Return the text of a word."""
    check_alphabet(alphabet)
    check_word(alphabet, word)
    return word_text(word)


def word_text(word):
    """Return the text of a word of any length."""
    return " ".join(word) if word else "-"


def parse_word(alphabet, text):
    """Return the word of a text."""
    check_alphabet(alphabet)
    check_text(text)
    return word_in(alphabet, text)


def word_in(alphabet, text):
    """Return the word of a string."""
    word = () if text == "-" else tuple(text.split(" "))
    if not has_only(alphabet, word) or len(word) > MAX_WORD:
        raise ParseError("not a word of at most 200 actions")
    return word


def format_vector(vector):
    """Return the text of a vector."""
    if not is_vector(vector):
        raise InvalidVector("not a tuple of one to five integers")
    return " ".join([decimal(number) for number in vector])


def parse_vector(text):
    """Return the vector of a text."""
    check_text(text)
    parts = text.split(" ")
    if len(parts) > MAX_ACTIONS:
        raise ParseError("a vector has one to five integers")
    return tuple([integer_in(part) for part in parts])


def format_fraction(fraction):
    """Return the text of a fraction."""
    check_fraction(fraction)
    return fraction_text(fraction)


def fraction_text(fraction):
    """Return the text of what is known to be a fraction."""
    top, below = fraction
    return decimal(top) if below == 1 else decimal(top) + "/" + decimal(below)


def parse_fraction(text):
    """Return the fraction of a text."""
    check_text(text)
    numbers = [integer_in(part) for part in text.split("/")]
    if len(numbers) == 1:
        return numbers[0], 1
    fraction = tuple(numbers)
    if not is_fraction(fraction) or fraction[1] == 1:
        raise ParseError("not a fraction in lowest terms")
    return fraction


def format_place(alphabet, place):
    """Return the text of a place of the alphabet."""
    check_place(alphabet, place)
    return place_text(alphabet, place)


def place_text(alphabet, place):
    """Return the text of what is known to be a place."""
    start, takes, gives = place
    items = [f"{action} {decimal(taken)} {decimal(given)}" for action, taken, given in zip(alphabet, takes, gives)]
    return decimal(start) + "; " + ", ".join(items)


def parse_place(alphabet, text):
    """Return the place of a text, with all actions of the alphabet in their order."""
    check_alphabet(alphabet)
    check_text(text)
    return place_in(alphabet, text)


def place_in(alphabet, text):
    """Return the place of a string."""
    head, rest = parts_in(text, "; ", 2)
    takes = []
    gives = []
    for action, item in zip(alphabet, parts_in(rest, ", ", len(alphabet))):
        name, taken, given = parts_in(item, " ", 3)
        if name != action:
            raise ParseError("not the actions of the alphabet in their order")
        takes.append(integer_in(taken))
        gives.append(integer_in(given))
    place = integer_in(head), tuple(takes), tuple(gives)
    if not is_place(alphabet, place):
        raise ParseError("a number of a place is below 0")
    return place


def alphabet_in(text):
    """Return the alphabet of a string."""
    alphabet = tuple(text.split(" "))
    if not is_alphabet(alphabet):
        raise ParseError("not ascending actions")
    return alphabet


def format_net(net):
    """Return the text of a net."""
    if not isinstance(net, Net):
        raise InvalidNet("not a net")
    return "\n".join([" ".join(net.alphabet), *[place_text(net.alphabet, place) for place in net.places]])


def parse_net(text):
    """Return the net of a text."""
    check_text(text)
    lines = text.split("\n")
    alphabet = alphabet_in(lines[0])
    if len(lines) > MAX_PLACES + 1:
        raise ParseError("a net has at most 200 places")
    places = tuple([place_in(alphabet, line) for line in lines[1:]])
    for at in range(1, len(places)):
        if places[at] <= places[at - 1]:
            raise ParseError("the places are not ascending")
    return Net.of(alphabet, places)


def format_behaviour(behaviour):
    """Return the text of a behaviour."""
    check_behaviour(behaviour)
    alphabet, size, edges = behaviour
    lines = [f"{state} {action} {target}" for state, action, target in edges]
    return "\n".join([" ".join(alphabet) + f"; {size}", *lines])


def parse_behaviour(text):
    """Return the behaviour of a text."""
    check_text(text)
    lines = text.split("\n")
    head, size = parts_in(lines[0], "; ", 2)
    edges = []
    for line in lines[1:]:
        state, action, target = parts_in(line, " ", 3)
        edges.append((integer_in(state), action, integer_in(target)))
    behaviour = alphabet_in(head), integer_in(size), tuple(edges)
    if not is_behaviour(behaviour):
        raise ParseError("not the size and edges of a behaviour")
    return behaviour


def format_step_paper(alphabet, paper):
    """Return the text of what has the form of a step paper."""
    check_alphabet(alphabet)
    if isinstance(paper, tuple) and len(paper) == 2:
        if paper[0] == "place" and is_place(alphabet, paper[1]):
            return "place " + place_text(alphabet, paper[1])
        if paper[0] == "mixture" and is_like_mixture(alphabet, paper[1]):
            return "mixture " + mixture_text(paper[1])
    raise InvalidOperation("not the form of a step paper")


def is_like_mixture(alphabet, value):
    """Tell whether the value has the form of a mixture."""
    if not isinstance(value, tuple) or len(value) != 2:
        return False
    parts, circles = value
    if not isinstance(parts, tuple) or not isinstance(circles, tuple) or len(parts) == 0:
        return False
    for part in parts:
        if not is_like_part(alphabet, part, 2):
            return False
    for circle in circles:
        if not is_like_part(alphabet, circle, 3) or len(circle[2]) == 0:
            return False
    return True


def is_like_part(alphabet, value, many):
    """Tell whether the value is a tuple of so many parts: a fraction greater than 0, and words of any length."""
    if not isinstance(value, tuple) or len(value) != many or not is_above_zero(value[0]):
        return False
    return all([has_only(alphabet, word) for word in value[1:]])


def mixture_text(mixture):
    """Return the text of what has the form of a mixture."""
    parts, circles = mixture
    texts = [f"{fraction_text(weight)} * {word_text(run)}" for weight, run in parts]
    for many, run, circle in circles:
        texts.append(f"{fraction_text(many)} * {word_text(circle)} after {word_text(run)}")
    return " + ".join(texts)


def marking_table(net, word):
    """Return a line for each beginning of the word, with its last action and the tokens of all places."""
    if not isinstance(net, Net):
        raise InvalidNet("not a net")
    net(word)
    moves = moves_by_action(net.alphabet, net.places)
    marking = tuple([place[0] for place in net.places])
    lines = [table_line("-", marking)]
    for action in word:
        marking = changed(marking, moves[action][1])
        lines.append(table_line(action, marking))
    return "\n".join(lines)


def table_line(name, marking):
    """Return a line of a table of markings."""
    return name.ljust(8) + "".join([decimal(many).rjust(6) for many in marking])
