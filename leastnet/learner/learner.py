"""A learner: logs under names that are edited, undone and tried out, and what they make unavoidable."""

from leastnet.base.integers import check_at_least, check_between
from leastnet.base.words import MAX_WORD, check_alphabet, check_word, is_action
from leastnet.compare.covers import is_all_covered
from leastnet.compare.wishes import check_few, check_words, paper_of_words
from leastnet.errors import Avoidable, InvalidOperation, NothingToUndo
from leastnet.learner.edits import check_forms, edited, edits_of_logs, united_logs
from leastnet.steps.least import net_of_faces
from leastnet.steps.mixtures import seen_of
from leastnet.steps.steps import first_avoidable, followers_of, is_word_unavoidable, paper_of_word


class Learner:
    """An alphabet and logs; all that is kept is replaced when it changes, so that it can be put back."""

    def __init__(self, alphabet, **logs):
        check_alphabet(alphabet)
        self._alphabet = alphabet
        self._longest = MAX_WORD
        self._logs = {}
        self._seen = seen_of((alphabet, 1, ()))
        self._watched = {}
        self._done = ()
        self._undone = ()
        self._begin(logs)

    def _begin(self, logs):
        """Take the logs with which the learner is made."""
        found = edited(self._alphabet, self._longest, {}, edits_of_logs(logs))
        self._move(found, united_logs(self._alphabet, found))

    @classmethod
    def of(cls, alphabet, logs):
        """Return the learner with the logs in this dict."""
        made = cls(alphabet)
        made._begin(logs)
        return made

    @property
    def alphabet(self):
        """The alphabet."""
        return self._alphabet

    @property
    def logs(self):
        """The settled behaviours under their names."""
        return {name: behaviour for name, (behaviour, _) in self._logs.items()}

    @property
    def seen(self):
        """The settled behaviour of all logs together."""
        return self._seen.behaviour

    @property
    def watched(self):
        """The watched words, ascending."""
        return tuple(sorted(self._watched))

    @property
    def edits(self):
        """The groups of edits that are in effect."""
        return tuple([group for group, _, _ in self._done])

    @property
    def longest(self):
        """The greatest length that words of logs may have."""
        return self._longest

    @longest.setter
    def longest(self, value):
        self.set_longest(value)

    def set_longest(self, value):
        """Set the greatest length that words of logs may have."""
        check_between(value, 0, MAX_WORD)
        for _, length in self._logs.values():
            if length > value:
                raise InvalidOperation("a log was made from a longer word")
        self._longest = value

    def put(self, name, *words):
        """Put a log of these words under the name; return the news."""
        return self.put_all(name, words)

    def put_all(self, name, words):
        """Put a log of the words in this tuple under the name; return the news."""
        return self.apply_all((("put", name, words),))

    def graph(self, name, behaviour):
        """Put the behaviour as a log under the name; return the news."""
        return self.apply_all((("graph", name, behaviour),))

    def drop(self, name):
        """Drop the log with this name; return the news."""
        return self.apply_all((("drop", name),))

    def apply(self, *edits):
        """Make these edits together; return the news."""
        return self.apply_all(edits)

    def apply_all(self, edits):
        """Make the edits in this tuple together; return the news."""
        check_forms(edits)
        if not edits:
            return ()
        before = self._logs, self.seen
        logs = edited(self._alphabet, self._longest, self._logs, edits)
        behaviour = united_logs(self._alphabet, logs)
        news = self._move(logs, behaviour)
        self._done = (*self._done, (edits, before, (logs, behaviour)))
        self._undone = ()
        return news

    def _move(self, logs, behaviour):
        """Go over to these logs and this behaviour, the united one; return the news."""
        if behaviour == self.seen:
            self._logs = logs
            return ()
        self._seen = seen_of(behaviour)
        self._logs = logs
        news = []
        watched = {}
        for word in self.watched:
            watched[word] = self._status(word)
            if watched[word] != self._watched[word]:
                news.append((word, self._watched[word], watched[word]))
        self._watched = watched
        return tuple(news)

    def _status(self, word):
        """Return the status of the word."""
        return "unavoidable" if is_word_unavoidable(self._seen, word) else "avoidable"

    def undo(self, *, many=1):
        """Undo the last groups; return the news."""
        check_at_least(many, 0)
        left = len(self._done) - many
        if left < 0:
            raise NothingToUndo(many)
        if many == 0:
            return ()
        logs, behaviour = self._done[left][1]
        self._undone = self._done[left:] + self._undone
        self._done = self._done[:left]
        return self._move(logs, behaviour)

    def redo(self, *, many=1):
        """Make groups again that were undone, the last undone one first; return the news."""
        check_at_least(many, 0)
        if many > len(self._undone):
            raise NothingToUndo(many)
        if many == 0:
            return ()
        logs, behaviour = self._undone[many - 1][2]
        self._done = self._done + self._undone[:many]
        self._undone = self._undone[many:]
        return self._move(logs, behaviour)

    def watch(self, word):
        """Watch the word; return its status."""
        check_word(self._alphabet, word)
        if word in self._watched:
            raise InvalidOperation("the word is watched already")
        status = self._status(word)
        watched = {other: known for other, known in self._watched.items()}
        watched[word] = status
        self._watched = watched
        return status

    def unwatch(self, word):
        """End watching the word."""
        check_word(self._alphabet, word)
        if word not in self._watched:
            raise InvalidOperation("the word is not watched")
        self._watched = {other: known for other, known in self._watched.items() if other != word}

    def __call__(self, word):
        """Return the actions with which the word is still unavoidable, ascending."""
        check_word(self._alphabet, word)
        if not is_word_unavoidable(self._seen, word):
            raise Avoidable(first_avoidable(self._seen.afresh(), word)[1])
        return followers_of(self._seen, word)

    def paper(self, word):
        """Return a word paper of the word."""
        check_word(self._alphabet, word)
        return paper_of_word(self._seen.afresh(), word)

    def net(self):
        """Return the least net."""
        return net_of_faces(self._seen)

    def bar(self, *words):
        """Return a barring paper of the words."""
        check_words(self._alphabet, words)
        check_few(words)
        return paper_of_words(self._seen.afresh(), words)

    def during(self, edits, call):
        """Make the edits together, return what the call of the learner returns, and put everything back."""
        logs = self._logs
        seen = self._seen
        longest = self._longest
        watched = self._watched
        done = self._done
        undone = self._undone
        self.apply_all(edits)
        try:
            return call(self)
        finally:
            self._logs = logs
            self._seen = seen
            self._longest = longest
            self._watched = watched
            self._done = done
            self._undone = undone

    def copied(self):
        """Return an independent learner with the same logs, edits, undone edits and watched words."""
        other = Learner(self._alphabet)
        other._longest = self._longest
        other._logs = self._logs
        other._seen = self._seen.afresh()
        other._watched = self._watched
        other._done = self._done
        other._undone = self._undone
        return other

    def __contains__(self, value):
        return is_action(value) and value in self._logs

    def __len__(self):
        return len(self._logs)

    def __bool__(self):
        return bool(self._logs)

    def __eq__(self, other):
        if not isinstance(other, Learner) or self._alphabet != other._alphabet:
            return False
        if self._seen.behaviour == other._seen.behaviour:
            return True
        return is_all_covered(self._seen, other._seen) and is_all_covered(other._seen, self._seen)

    def __str__(self):
        return f"learner with {len(self._logs)} logs"
