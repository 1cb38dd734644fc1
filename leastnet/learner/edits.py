"""Edits of logs, and the logs that are there behind them."""

from leastnet.base.words import check_word, is_action
from leastnet.errors import InvalidBehaviour, InvalidEdit, InvalidWord, UnknownName
from leastnet.seen.behaviours import is_behaviour, logs_from, united_form

PARTS = {"put": 3, "graph": 3, "drop": 2}


def check_forms(edits):
    """Raise the error of a value that is not a tuple of tuples with the words and parts of edits."""
    if not isinstance(edits, tuple):
        raise InvalidEdit("not a tuple of edits")
    for edit in edits:
        if not isinstance(edit, tuple) or len(edit) < 2 or not isinstance(edit[0], str):
            raise InvalidEdit("an edit is a tuple that begins with a word")
        if PARTS.get(edit[0]) != len(edit):
            raise InvalidEdit("no edit has this word and so many parts")


def edits_of_logs(logs):
    """Return the edits that put these values under their names, which must be strings."""
    if not isinstance(logs, dict):
        raise InvalidEdit("not a dict of logs")
    for name in logs:
        if not isinstance(name, str):
            raise InvalidEdit("the name of a log is a string")
    return tuple([("graph" if is_behaviour(logs[name]) else "put", name, logs[name]) for name in sorted(logs)])


def check_words(alphabet, words, longest):
    """Raise the error of a value that is not a tuple of words of at most so many actions."""
    if not isinstance(words, tuple):
        raise InvalidWord("not a tuple of words")
    for word in words:
        check_word(alphabet, word)
        if len(word) > longest:
            raise InvalidWord("a word is longer than words of logs may be")


def check_graph(alphabet, behaviour):
    """Raise the error of a value that is not a behaviour with this alphabet."""
    if not is_behaviour(behaviour) or behaviour[0] != alphabet:
        raise InvalidBehaviour("not a behaviour with the alphabet of the learner")


def edited(alphabet, longest, logs, edits):
    """Return the dict of the logs behind the edits, which are known to have the right forms.

    A log is a pair of a settled behaviour and the length of the longest word from which it was made.
    """
    kept = dict(logs)
    made = {}
    for edit in edits:
        name = edit[1]
        if not is_action(name):
            raise InvalidEdit("the name of a log has one to eight letters from a to z")
        if edit[0] == "put":
            check_words(alphabet, edit[2], longest)
        elif edit[0] == "graph":
            check_graph(alphabet, edit[2])
        elif name not in kept and name not in made:
            raise UnknownName(name)
        kept.pop(name, None)
        made.pop(name, None)
        if edit[0] != "drop":
            made[name] = edit
    for name in sorted(made):
        kept[name] = log_from(alphabet, made[name])
    return {name: kept[name] for name in sorted(kept)}


def log_from(alphabet, edit):
    """Return the log that the edit puts."""
    if edit[0] == "graph":
        return united_form((edit[2],)), 0
    return logs_from(alphabet, edit[2]), max([len(word) for word in edit[2]], default=0)


def united_logs(alphabet, logs):
    """Return the settled behaviour of all logs, that of the empty run alone without any."""
    behaviours = tuple([behaviour for behaviour, _ in logs.values()])
    if not behaviours:
        return alphabet, 1, ()
    # A settled behaviour is its own settled form.
    return behaviours[0] if len(behaviours) == 1 else united_form(behaviours)
