"""Tests of leastnet.text.shell: [0.2], [18.1]."""

import random
import time
import unittest

from leastnet.base.words import is_alphabet
from leastnet.errors import Avoidable, InvalidAlphabet, InvalidCommand, InvalidEdit, InvalidNumber, InvalidOperation, NothingToUndo
from leastnet.errors import ParseError, TooMany, UnknownName
from leastnet.learner.learner import Learner
from leastnet.seen.behaviours import log_of
from leastnet.seen.respect import respects
from leastnet.text.formats import format_behaviour, format_net, format_word, parse_behaviour, parse_net, parse_place
from leastnet.text.shell import Shell
from helpers import FORTY, Case, kinds
from reference import AB, ABX, TWO, allows_word
from test_learner import state_of

COMMANDS = ("put", "drop", "undo", "redo", "watch", "unwatch", "next", "why", "bar", "net", "seen", "names", "watched")


def text_of(news):
    """Return the text of news."""
    return ", ".join(f"{' '.join(word) or '-'} {after}" for word, _, after in news) or "none"


class Answers(Case):
    def test_examples(self):
        lines = ("put one a a x", "watch b b x", "put two b b x", "next a", "why b b", "bar b b, b", "names")
        self.same(list(Shell(ABX).answers(*lines)), ["none", "avoidable", "b b x unavoidable", "a", "unavoidable", "unavoidable b b", "one two"])

    def test_against_a_learner(self):
        chance = random.Random(301)
        for _ in range(30):
            shell, learner = Shell(ABX), Learner(ABX)
            done = 0
            for _ in range(30):
                line, call = self.one_command(chance, learner)
                before = state_of(shell.learner())
                try:
                    wanted = call()
                except Exception as error:
                    self.fails(error.__class__, shell.run, line)
                    self.same(state_of(shell.learner()), before)
                else:
                    self.same(shell.run(line), wanted)
                    done += 1
                self.same((len(shell), str(shell)), (done, f"shell with {done} answers"))
                self.same(state_of(shell.learner()), state_of(learner))

    def one_command(self, chance, learner):
        """Return a line and a call of the learner that gives the answer it must have."""
        word = tuple(chance.choice(ABX) for _ in range(chance.randint(0, 3)))
        some = tuple(tuple(chance.choice(ABX) for _ in range(chance.randint(0, 3))) for _ in range(chance.randint(1, 3)))
        text, texts = format_word(ABX, word), ", ".join(format_word(ABX, one) for one in some)
        name, many = chance.choice(("one", "two", "b")), chance.randint(0, 2)
        return chance.choice((
            (f"put {name} {texts}", lambda: text_of(learner.put_all(name, some))),
            (f"put {name} {texts}", lambda: text_of(learner.put_all(name, some))),
            (f"drop {name}", lambda: text_of(learner.drop(name))),
            (f"undo {many}", lambda: text_of(learner.undo(many=many))),
            (f"redo {many}", lambda: text_of(learner.redo(many=many))),
            (f"watch {text}", lambda: learner.watch(word)),
            (f"watch {text}", lambda: learner.watch(word)),
            (f"unwatch {text}", lambda: learner.unwatch(word) or "ok"),
            (f"next {text}", lambda: " ".join(learner(word)) or "none"),
            (f"why {text}", lambda: self.reason(learner.paper(word))),
            (f"bar {texts}", lambda: self.barred(learner.bar(*some), some)),
            ("net", lambda: format_net(learner.net()).replace("\n", " / ")),
            ("seen", lambda: format_behaviour(learner.seen).replace("\n", " / ")),
            ("names", lambda: " ".join(learner.logs) or "none"),
            ("watched", lambda: ", ".join(format_word(ABX, one) for one in learner.watched) or "none"),
        ))

    def reason(self, paper):
        """Return the answer of why."""
        if paper[0] == "mixtures":
            return "unavoidable"
        start, takes, gives = paper[2]
        items = ", ".join(f"{action} {taken} {given}" for action, taken, given in zip(ABX, takes, gives))
        return f"{paper[1]}: {start}; {items}"

    def barred(self, paper, some):
        """Return the answer of bar."""
        if paper[0] == "unavoidable":
            return "unavoidable " + format_word(ABX, some[paper[1]])
        return " / ".join(format_net(paper[1]).split("\n")[1:])

    def test_each_command(self):
        shell = Shell(ABX)
        self.same(shell.run("names"), "none")
        self.same(shell.run("watched"), "none")
        self.same(shell.run("seen"), "a b x; 1")
        self.same(shell.run("next -"), "none")
        self.same(shell.run("why -"), "unavoidable")
        self.same(shell.run("bar -"), "unavoidable -")
        self.same(shell.run("watch -"), "unavoidable")
        self.same(shell.run("watch a b"), "avoidable")
        self.same(shell.run("watched"), "-, a b")
        self.same(shell.run("put one a b, -, b"), "a b unavoidable")
        self.same(shell.run("seen"), "a b x; 3 / 0 a 1 / 0 b 2 / 1 b 2")
        self.same(shell.run("next -"), "a b")
        self.same(shell.run("undo 1"), "a b avoidable")
        self.same(shell.run("redo 1"), "a b unavoidable")
        self.same(shell.run("watch b"), "unavoidable")
        self.same(shell.run("drop one"), "a b avoidable, b avoidable")
        self.same(shell.run("undo 0"), "none")
        self.same(shell.run("unwatch a b"), "ok")
        self.same(shell.run("watched"), "-, b")
        self.same(shell.run("redo 0"), "none")
        self.same(shell.run("put zz x"), "none")
        self.same(shell.run("put a -"), "none")
        self.same(shell.run("names"), "a zz")
        self.same(len(shell), 23)

    def test_texts_are_read_back(self):
        shell = Shell(ABX)
        shell.run("put one a a x, b b x")
        self.same(parse_behaviour(shell.run("seen").replace(" / ", "\n")), TWO)
        self.assertTrue(parse_net(shell.run("net").replace(" / ", "\n")) == shell.learner().net())
        position, text = shell.run("why a b").split(": ")
        place = parse_place(ABX, text)
        self.same((position, respects(TWO, place), allows_word(ABX, place, ("a", "b"))), ("1", True, False))
        places = [parse_place(ABX, one) for one in shell.run("bar a b, x").split(" / ")]
        for word in (("a", "b"), ("x",)):
            self.assertFalse(all(allows_word(ABX, place, word) for place in places))
        self.assertTrue(all(respects(TWO, place) for place in places))


class Commands(Case):
    def test_lines(self):
        shell = Shell(("a",))
        for value in kinds():
            known = isinstance(value, str) and value.split(" ")[0] in COMMANDS
            self.assertIs(value in shell, known, value)
            if not known:
                self.fails(InvalidCommand, shell.run, value)
        for word in COMMANDS:
            self.assertIs(word in shell, True)
            for line in (word + " ", word + "  x y z", word + " \n"):
                self.assertIs(line in shell, True, line)
            for line in (word + "x", " " + word, word.upper(), word + "\n", word + "\t", word + ",a", ""):
                self.assertIs(line in shell, False, line)
                self.fails(InvalidCommand, shell.run, line)
            for line in (word + " ", word + "  a", word + " a ", word + " a  a", word + " a a ", "  " + word):
                self.fails(InvalidCommand, shell.run, line)
        self.same(len(shell), 0)

    def test_numbers_of_parts(self):
        shell = Shell(("a",))
        for line in ("put", "put one", "drop", "drop a b", "undo", "undo 1 2", "redo", "redo 1 1", "watch", "unwatch", "next", "why", "bar", "net a",
                     "seen a", "names a", "watched a", "net -", "drop x X x", "undo x x", "put x", "undo 01 01"):
            self.fails(InvalidCommand, shell.run, line)
        for line, error in (("put A a", InvalidEdit), ("drop A", InvalidEdit), ("drop x", UnknownName), ("undo 1", NothingToUndo)):
            self.fails(error, shell.run, line)
        self.same(len(shell), 0)

    def test_parts(self):
        shell = Shell(AB)
        before = state_of(shell.learner())
        for line in ("undo x", "undo 01", "undo -0", "undo +1", "undo 1.0", "undo " + "1" * 41, "undo -" + "1" * 41, "undo 1,", "undo \u0661", "redo --1", "redo 1\n", "redo -",
                     "watch x", "watch a,b", "watch a, b", "watch - a", "watch a -", "watch A", "watch a\tb", "watch a\n", "watch 1", "unwatch x", "next a x", "why x",
                     "bar a,b", "bar a, x", "bar ,", "bar a,", "bar a, b,", "bar , a", "bar a , b", "bar a, - a", "put one x", "put one a,b", "put one a, x", "put one ,",
                     "put A x", "put one a,", "why " + " ".join(["a"] * 201), "put one " + " ".join(["b"] * 201), "bar a, " + " ".join(["b"] * 201)):
            self.fails(ParseError, shell.run, line)
        self.same((len(shell), state_of(shell.learner())), (0, before))

    def test_errors_of_what_is_called(self):
        shell = Shell(AB)
        shell.run("put one a b")
        for line, error, name, value in (
            ("undo -1", InvalidNumber, "value", -1), ("redo -5", InvalidNumber, "value", -5), ("undo 2", NothingToUndo, "many", 2), ("redo 1", NothingToUndo, "many", 1),
            (f"undo {FORTY}", NothingToUndo, "many", FORTY), (f"redo -{FORTY}", InvalidNumber, "value", -FORTY), ("drop two", UnknownName, "name", "two"),
            ("bar " + ", ".join(["b"] * 201), TooMany, "limit", 200),
        ):
            self.fails_with(error, name, value, shell.run, line)
        for line, error in (("unwatch a", InvalidOperation), ("put One a", InvalidEdit), ("put a1 a", InvalidEdit), ("put abcdefghi a", InvalidEdit), ("drop -", InvalidEdit),
                            ("next b", Avoidable)):
            self.fails(error, shell.run, line)
        shell.run("watch a")
        self.fails(InvalidOperation, shell.run, "watch a")
        self.fails_with(TooMany, "limit", 150, shell.run, "put long " + " ".join(["a"] * 200))
        self.same(len(shell), 2)

    def test_order(self):
        shell = Shell(AB)
        # Too many parts come before a part that cannot be read, and this one before what is called.
        self.fails(InvalidCommand, shell.run, "undo x x")
        self.fails(InvalidCommand, shell.run, "put A  x")
        self.fails(ParseError, shell.run, "put A x")
        self.fails(InvalidEdit, shell.run, "put A a")
        self.fails(ParseError, shell.run, "unwatch x")
        self.fails(InvalidOperation, shell.run, "unwatch a")


class Shells(Case):
    def test_generator(self):
        shell = Shell(AB)
        answers = shell.answers("put one a", "watch b", "drop two", "put three b")
        self.same(len(shell), 0)
        self.same(next(answers), "none")
        self.same((len(shell), list(shell.learner().logs)), (1, ["one"]))
        shell.run("put two b")
        self.same(next(answers), "unavoidable")
        self.same(next(answers), "b avoidable")
        self.fails(StopIteration, lambda: (next(answers), next(answers)))
        answers = shell.answers("put four a b", "nothing", "put five a")
        self.same(next(answers), "none")
        self.fails(InvalidCommand, next, answers)
        self.fails(StopIteration, next, answers)
        self.same(list(shell.learner().logs), ["four", "one", "three"])
        self.same(list(shell.answers()), [])
        self.fails(InvalidCommand, next, shell.answers(None))

    def test_copies(self):
        shell = Shell(ABX)
        for line in ("put one a", "watch b", "put two b", "put three x", "undo 1"):
            shell.run(line)
        copy = shell.learner()
        self.assertIsInstance(copy, Learner)
        self.same((copy.watched, list(copy.logs), copy.edits), ((("b",),), ["one", "two"], ((("put", "one", (("a",),)),), (("put", "two", (("b",),)),))))
        self.same(copy.redo(), ())
        self.same(copy.logs["three"], log_of(ABX, ("x",)))
        copy.undo(many=3)
        copy.put("new", ("x", "x"))
        copy.unwatch(("b",))
        copy.longest = 5
        self.same([shell.run("names"), shell.run("watched"), shell.run("redo 1"), shell.run("undo 3")], ["one two", "b", "none", "b avoidable"])
        other = shell.learner()
        self.same((other.longest, list(other.logs), other.redo(many=3)), (200, [], ((("b",), "avoidable", "unavoidable"),)))
        self.same(list(copy.logs), ["new"])
        self.same(len(shell), 9)

    def test_equal(self):
        one, other = Shell(ABX), Shell(ABX)
        self.assertTrue(one == other)
        one.run("put one a a x, b b x")
        self.assertFalse(one == other)
        other.run("put two b b x, a a x, a a")
        self.assertTrue(one == other)
        other.run("names")
        self.assertFalse(one == other)
        one.run("seen")
        self.assertTrue(one == other)
        one.run("drop one")
        other.run("watch a")
        self.assertFalse(one == other)
        self.assertFalse(Shell(AB) == Shell(ABX))
        for value in kinds():
            self.assertIs(Shell(("a",)) == value, isinstance(value, Shell) and value.learner().alphabet == ("a",))
            self.assertIs(value == Shell(("a",)), isinstance(value, Shell) and value.learner().alphabet == ("a",))

    def test_texts(self):
        shell = Shell(AB)
        self.same((str(shell), len(shell)), ("shell with 0 answers", 0))
        shell.run("names")
        self.same((str(shell), len(shell)), ("shell with 1 answers", 1))
        self.fails(InvalidCommand, shell.run, "name")
        self.same(len(shell), 1)
        with self.assertRaises(TypeError):
            iter(shell)

    def test_alphabets(self):
        for value in kinds():
            if is_alphabet(value):
                Shell(value)
            else:
                self.fails(InvalidAlphabet, Shell, value)

    def test_time(self):
        start = time.process_time()
        shell = Shell(ABX)
        for number in range(1000):
            list(shell.answers("put one a a x, b b x", f"put two {'a ' * (number % 4)}b", "next a", "why a b", "names", "undo 1"))
        self.assertTrue(time.process_time() - start < 15)


if __name__ == "__main__":
    unittest.main()
