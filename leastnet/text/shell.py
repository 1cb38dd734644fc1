"""A shell: a learner that is asked by lines of text."""

from leastnet.errors import InvalidCommand
from leastnet.learner.learner import Learner
from leastnet.text.formats import decimal, format_behaviour, format_net, integer_in, place_text, word_in, word_text

# For each command its least and its greatest number of parts; 0 stands for any number.
COMMANDS = {
    "put": (3, 0), "drop": (2, 2), "undo": (2, 2), "redo": (2, 2), "watch": (2, 0), "unwatch": (2, 0), "next": (2, 0),
    "why": (2, 0), "bar": (2, 0), "net": (1, 1), "seen": (1, 1), "names": (1, 1), "watched": (1, 1),
}


def is_command(value):
    """Tell whether the value is a string whose first part is a word of the table."""
    return isinstance(value, str) and value.partition(" ")[0] in COMMANDS


def parts_of(line):
    """Return the list of the parts of a command."""
    if not is_command(line):
        raise InvalidCommand("not a string that begins with a command")
    parts = line.split(" ")
    least, most = COMMANDS[parts[0]]
    if len(parts) < least or 0 < most < len(parts):
        raise InvalidCommand("too few or too many parts")
    if "" in parts:
        raise InvalidCommand("a part is empty")
    return parts


def words_in(alphabet, text):
    """Return the tuple of the words of a string."""
    return tuple([word_in(alphabet, part) for part in text.split(", ")])


def news_text(news):
    """Return the text of news."""
    return ", ".join([word_text(word) + " " + status for word, _, status in news]) if news else "none"


def in_one_line(text):
    """Return the text with other signs in the place of newlines."""
    return text.replace("\n", " / ")


class Shell:
    """A learner and the lines that were carried out."""

    def __init__(self, alphabet):
        self._learner = Learner(alphabet)
        self._alphabet = alphabet
        self._lines = []

    def run(self, line):
        """Carry out a command and return its answer."""
        parts = parts_of(line)
        answer = self._answer(parts[0], parts[1:])
        self._lines.append(line)
        return answer

    def _answer(self, command, parts):
        """Return the answer of a command with these parts, and as many as it has."""
        if command in ("put", "drop", "undo", "redo"):
            return news_text(self._news(command, parts))
        if command == "bar":
            return self._barring(words_in(self._alphabet, " ".join(parts)))
        if parts:
            return self._about(command, word_in(self._alphabet, " ".join(parts)))
        if command == "net":
            return in_one_line(format_net(self._learner.net()))
        if command == "seen":
            return in_one_line(format_behaviour(self._learner.seen))
        if command == "names":
            return " ".join(list(self._learner.logs)) if self._learner else "none"
        return ", ".join([word_text(word) for word in self._learner.watched]) if self._learner.watched else "none"

    def _news(self, command, parts):
        """Carry out a command that edits, and return the news."""
        if command == "put":
            return self._learner.put_all(parts[0], words_in(self._alphabet, " ".join(parts[1:])))
        if command == "drop":
            return self._learner.drop(parts[0])
        if command == "undo":
            return self._learner.undo(many=integer_in(parts[0]))
        return self._learner.redo(many=integer_in(parts[0]))

    def _about(self, command, word):
        """Return the answer of a command with a word."""
        if command == "watch":
            return self._learner.watch(word)
        if command == "unwatch":
            self._learner.unwatch(word)
            return "ok"
        if command == "next":
            actions = self._learner(word)
            return " ".join(actions) if actions else "none"
        paper = self._learner.paper(word)
        if paper[0] == "mixtures":
            return "unavoidable"
        return decimal(paper[1]) + ": " + place_text(self._alphabet, paper[2])

    def _barring(self, words):
        """Return the answer of `bar`."""
        paper = self._learner.bar(*words)
        if paper[0] == "unavoidable":
            return "unavoidable " + word_text(words[paper[1]])
        return " / ".join([place_text(self._alphabet, place) for place in paper[1].places])

    def answers(self, *lines):
        """Yield the answers of the commands, each carried out when its answer is asked for."""
        for line in lines:
            yield self.run(line)

    def learner(self):
        """Return an independent copy of the learner."""
        return self._learner.copied()

    def __contains__(self, value):
        return is_command(value)

    def __len__(self):
        return len(self._lines)

    def __eq__(self, other):
        if not isinstance(other, Shell) or len(self._lines) != len(other._lines):
            return False
        return self._learner == other._learner

    def __str__(self):
        return f"shell with {len(self._lines)} answers"
