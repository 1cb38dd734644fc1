"""Tests of leastnet.text.formats: [17.1]."""

import random
import time
import unittest

from leastnet.base.words import is_alphabet
from leastnet.errors import Avoidable, InvalidAlphabet, InvalidBehaviour, InvalidFraction, InvalidNet, InvalidOperation, InvalidPlace
from leastnet.errors import InvalidVector, InvalidWord, ParseError
from leastnet.nets.nets import Net
from leastnet.seen.behaviours import behaviour_of, is_behaviour
from leastnet.steps.least import least_net
from leastnet.steps.steps import step_paper
from leastnet.text.formats import format_behaviour, format_fraction, format_net, format_place, format_step_paper, format_vector, format_word
from leastnet.text.formats import marking_table, parse_behaviour, parse_fraction, parse_net, parse_place, parse_vector, parse_word
from helpers import FORTY, Case, kinds
from reference import AB, ABX, CP, FIVE, NO_BEHAVIOURS, TURN, TWO, behaviours, is_int
from test_steps import chance_steps
import papers

HALVES = ((((1, 2), ("a", "a")), ((1, 2), ("b", "b"))), ())
LONG = "abcdefgh"
SIGNS = (" ", "-", "0", "1", "a", ";", ",", "/", "\n", "+", "x", "\t", "_", ".", "\u0661", "\u00b2", "A", "  ")


def nearly(text):
    """Return all texts with one sign put in or left out."""
    found = [text[:at] + text[at + 1:] for at in range(len(text))]
    return found + [text[:at] + sign + text[at:] for at in range(len(text) + 1) for sign in SIGNS]


class Reading(Case):
    """Each text is read back as its value; all other texts that are read at all are texts of other values."""

    def both_ways(self, write, read, value):
        """The value is read back from its text; near texts are read only if they are texts themselves."""
        text = write(value)
        self.assertIsInstance(text, str)
        self.assertTrue(read(text) == value)
        read_at_all = 0
        for near in nearly(text):
            try:
                other = read(near)
            except ParseError:
                continue
            read_at_all += 1
            self.assertEqual(write(other), near)
        return read_at_all

    def test_words(self):
        for word in ((), ("a",), ("b", "a", "x"), ("x",) * 5):
            self.both_ways(lambda value: format_word(ABX, value), lambda text: parse_word(ABX, text), word)
        self.both_ways(lambda value: format_word((LONG, "b"), value), lambda text: parse_word((LONG, "b"), text), (LONG, "b"))
        self.same([format_word(ABX, ()), format_word(ABX, ("b", "a"))], ["-", "b a"])
        long = ("a",) * 200
        self.same(parse_word(AB, format_word(AB, long)), long)
        self.fails(ParseError, parse_word, AB, " ".join(("a",) * 201))
        self.fails(InvalidWord, format_word, AB, ("a",) * 201)

    def test_vectors(self):
        for vector in ((0,), (1, -2), (-1, 0, 10, 200, -30), (FORTY, -FORTY)):
            self.both_ways(format_vector, parse_vector, vector)
        self.same(parse_vector("0 -1 5"), (0, -1, 5))
        for text in ("", " ", "-", "-0", "+1", "01", "00", "-01", "1 ", " 1", "1  2", "1\n2", "1,2", "1 2 3 4 5 6", "a", "1.0", "1e3", "0x1", "1_0",
                     "\u0661", "\u00b2", "--1", "- 1", "1\t2", str(FORTY + 1), str(-FORTY - 1), "1 " + str(FORTY + 1), "1\n", "\uff11"):
            self.fails(ParseError, parse_vector, text)
        self.same(parse_vector(str(-FORTY)), (-FORTY,))
        self.fails(ParseError, parse_vector, "1" * 5000)

    def test_fractions(self):
        for fraction in ((0, 1), (-3, 2), (3, 1), (-1, 1), (1, FORTY), (FORTY, 2), (10, 101)):
            self.both_ways(format_fraction, parse_fraction, fraction)
        self.same([parse_fraction("-3/2"), format_fraction((3, 1)), format_fraction((-3, 2))], [(-3, 2), "3", "-3/2"])
        for text in ("", "/", "1/", "/2", "3/1", "0/1", "0/2", "2/4", "6/-4", "1/0", "-0", "-0/2", "1/2/3", "1 /2", "1/ 2", "1/02", "+1/2", "1/-1", "1//2",
                     "1/" + str(FORTY + 1), str(FORTY + 1) + "/3", "1/1", "01/2"):
            self.fails(ParseError, parse_fraction, text)

    def test_places(self):
        for place in ((1, (1, 1, 0), (0, 0, 1)), (0, (0, 0, 0), (0, 0, 0)), (FORTY, (10, 0, FORTY), (2, 30, 0))):
            self.both_ways(lambda value: format_place(ABX, value), lambda text: parse_place(ABX, text), place)
        self.both_ways(lambda value: format_place((LONG,), value), lambda text: parse_place((LONG,), text), (2, (1,), (0,)))
        self.same(format_place(ABX, (1, (1, 1, 0), (0, 0, 1))), "1; a 1 0, b 1 0, x 0 1")
        for text in ("", "1", "1; ", "1; a 1 0", "1; a 1 0, b 0 1, c 0 0", "1; b 1 0, a 0 1", "1; a 1 0,b 0 1", "1;a 1 0, b 0 1", "1; a 1 0, b 0 1, ",
                     "1; a 1 0, a 0 1", "-1; a 1 0, b 0 1", "1; a -1 0, b 0 1", "1; a 1 -1, b 0 1", "1; a 1, b 0 1", "1; a 1 0 0, b 0 1", "1; a 01 0, b 0 1",
                     "1; a 1 0; b 0 1", "1; ; a 1 0, b 0 1", "1; a 1 0, b 0 1\n", "1; a 1 0, b 0 " + str(FORTY + 1), "1; A 1 0, b 0 1"):
            self.fails(ParseError, parse_place, AB, text)
        self.same(parse_place(AB, "1; a 1 0, b 0 1"), (1, (1, 0), (0, 1)))

    def test_nets(self):
        for net in (Net(CP), Net(("a",), (0, (1,), (0,))), least_net(TURN), least_net(TWO), Net((LONG, "b"), (1, (0, 0), (0, 0)))):
            self.both_ways(format_net, parse_net, net)
        self.same(format_net(least_net(TURN)), "c p\n0; c 1 0, p 0 1\n0; c 1 1, p 0 1\n1; c 0 1, p 1 0")
        self.same(format_net(Net(CP)), "c p")
        for text in ("", "\n", "c p\n", "c p\n\n", "p c", "c c", "c  p", "c p ", "c,p", "c p; 2", "a b c d e f", "c p\n0; c 0 1, p 1 0\n0; c 0 1, p 1 0",
                     "c p\n1; c 0 1, p 1 0\n0; c 0 1, p 1 0", "c p\n0; c 0 1, p 1 0\n", "c p\n\n0; c 0 1, p 1 0", "c p\r\n0; c 0 1, p 1 0", "c p\n0; p 1 0, c 0 1",
                     "c p\n0; c 0 1", "abcdefghi", "C"):
            self.fails(ParseError, parse_net, text)
        lines = ["a"] + [f"{number}; a 1 0" for number in range(201)]
        self.same(len(parse_net("\n".join(lines[:201]))), 200)
        self.fails(ParseError, parse_net, "\n".join(lines))

    def test_behaviours(self):
        for behaviour in [TURN, TWO, (("a",), 1, ()), behaviour_of((LONG, "b"), (0, LONG, 1), (0, "b", 0)), *behaviours(291, 10)]:
            self.both_ways(format_behaviour, parse_behaviour, behaviour)
        self.same(format_behaviour(TURN), "c p; 2\n0 p 1\n1 c 0")
        for text in ("", "c p", "c p; ", "c p; 0", "c p; 1\n", "c p; 01", "c p; -1", "c p; 2", "c p; 2\n1 c 0", "c p; 2\n1 c 0\n0 p 1", "c p; 2\n0 p 1\n0 p 1",
                     "c p; 2\n0 p 1\n1 c 0\n", "c p; 2\n\n0 p 1", "c p; 2\n0 p 1\n1 x 0", "c p; 1\n0 p 1", "p c; 1", "c p;1", "c p; 1; 2", "c p; 2\n0  p 1", "c p; 2\n0 p",
                     "c p; 2\n0 p 1 2", "c p; 2\n00 p 1", "c p; 2\n0 p 1\n1 c -0", "c p; 2\n0 p +1", " c p; 1", "c p ; 1", "c p; 1 ", "c p; 151", "c p; " + "9" * 41):
            self.fails(ParseError, parse_behaviour, text)

    def test_sizes(self):
        line = behaviour_of(("a",), *[(state, "a", state + 1) for state in range(149)])
        self.same(parse_behaviour(format_behaviour(line)), line)
        text = "a; 151\n" + "\n".join(f"{state} a {state + 1}" for state in range(150))
        self.fails(ParseError, parse_behaviour, text)
        chance = random.Random(292)
        edges = {(state, "a", state + 1) for state in range(149)}
        while len(edges) < 750:
            edges.add((chance.randrange(150), chance.choice(FIVE), chance.randrange(150)))
        full = behaviour_of(FIVE, *edges)
        self.same(parse_behaviour(format_behaviour(full)), full)
        missing = next((0, "e", target) for target in range(150) if (0, "e", target) not in edges)
        more = sorted([*edges, missing])
        text = "a b c d e; 150\n" + "\n".join(" ".join(map(str, edge)) for edge in more)
        self.fails(ParseError, parse_behaviour, text)

    def test_any_value(self):
        for value in kinds():
            self.reads(value, parse_vector, format_vector)
            self.reads(value, parse_fraction, format_fraction)
            self.reads(value, parse_net, format_net)
            self.reads(value, parse_behaviour, format_behaviour)
            self.reads(value, lambda text: parse_word(("a",), text), lambda word: format_word(("a",), word))
            self.reads(value, lambda text: parse_place(("a",), text), lambda place: format_place(("a",), place))

    def reads(self, value, read, write):
        """A value is read only if it is the text of what is read."""
        if isinstance(value, str):
            try:
                self.same(write(read(value)), value)
            except ParseError:
                return
        else:
            self.fails(ParseError, read, value)

    def test_alphabets_come_first(self):
        for value in kinds():
            if not is_alphabet(value):
                for call in (format_word, parse_word, format_place, parse_place, format_step_paper):
                    self.fails(InvalidAlphabet, call, value, None)


class Writing(Case):
    def test_examples(self):
        found = [format_place(ABX, (1, (1, 1, 0), (0, 0, 1))), format_vector((1, -2)), parse_fraction("-3/2"), format_behaviour(TURN)]
        self.same(found, ["1; a 1 0, b 1 0, x 0 1", "1 -2", (-3, 2), "c p; 2\n0 p 1\n1 c 0"])
        self.same(format_step_paper(ABX, ("mixture", HALVES)), "mixture 1/2 * a a + 1/2 * b b")

    def test_integers_of_any_size(self):
        chance = random.Random(293)
        for digits in (40, 41, 59, 60, 61, 119, 120, 121, 500):
            for sign in ("", "-"):
                text = sign + chance.choice("123456789") + "".join(chance.choice("0123456789") for _ in range(digits - 1))
                number = int(text)
                self.same(format_vector((number, 1)), text + " 1")
                self.same(format_fraction((number, 1)), text)
                if digits > 40:
                    self.fails(ParseError, parse_vector, text)
        big = 10 ** 9000
        self.same(format_fraction((-big, 1)), "-1" + "0" * 9000)
        self.same(format_fraction((1, big)), "1/1" + "0" * 9000)
        self.same(format_vector((big + 7,)), "1" + "0" * 8999 + "7")
        self.same(format_place(("a",), (big, (0,), (10 ** 60,))), "1" + "0" * 9000 + "; a 0 1" + "0" * 60)
        self.same(format_vector((0, -1, 10 ** 60, -10 ** 60 + 1)), "0 -1 1" + "0" * 60 + " -" + "9" * 60)
        self.same(marking_table(Net(("a",), (big, (0,), (0,))), ()), "-       1" + "0" * 9000)

    def test_step_papers(self):
        for behaviour, x, action in chance_steps(294, 200):
            kind, value = step_paper(behaviour, x, action)
            text = format_step_paper(behaviour[0], (kind, value))
            if kind == "place":
                self.same(text, "place " + format_place(behaviour[0], value))
            else:
                parts = [f"{format_fraction(weight)} * {' '.join(run) or '-'}" for weight, run in value[0]]
                circles = [f"{format_fraction(many)} * {' '.join(circle)} after {' '.join(run) or '-'}" for many, run, circle in value[1]]
                self.same(text, "mixture " + " + ".join(parts + circles))
        circle = ("mixture", ((((1, 1), ()),), (((2, 1), (), ("p", "c")), ((1, 3), ("p",), ("c", "p")))))
        self.same(format_step_paper(CP, circle), "mixture 1 * - + 2 * p c after - + 1/3 * c p after p")

    def test_forms_of_step_papers(self):
        long = ("a",) * 300
        # It need not belong to a behaviour: the weights need not have the sum 1.
        self.same(format_step_paper(AB, ("mixture", ((((7, 2), ("b",)),), ()))), "mixture 7/2 * b")
        self.same(format_step_paper(AB, ("mixture", ((((1, 1), long),), ()))), "mixture 1 * " + " ".join(long))
        self.same(format_step_paper(AB, ("place", (0, (0, 0), (0, 0)))), "place 0; a 0 0, b 0 0")
        part = ((1, 1), ("a",))
        for wrong in (("mixture", ((), ())), ("mixture", [(part,), ()]), ("mixture", ((part,),)), ("mixture", ((part,), (), ())), ("mixture", ([part], ())), ("mixture", ((part,), [])),
                      ("mixture", ((((0, 1), ("a",)),), ())), ("mixture", ((((-1, 1), ("a",)),), ())), ("mixture", ((((2, 2), ("a",)),), ())),
                      ("mixture", ((((1, 1), ("x",)),), ())), ("mixture", ((((1, 1), ["a"]),), ())), ("mixture", ((((1, 1), "a"),), ())), ("mixture", ((part + ((),),), ())),
                      ("mixture", ((part,), (((1, 1), (), ()),))), ("mixture", ((part,), (((1, 1), ("a",)),))), ("mixture", ((part,), (((0, 1), (), ("a",)),))),
                      ("mixture", ((part,), (((1, 1), ("x",), ("a",)),))), ("mixture", ((part,), (((1, 1), (), ("x",)),))), ("place", (0, (0,), (0,))),
                      ("place", (-1, (0, 0), (0, 0))), ("place", (0, (0, 0), (0, 0)), ()), ["place", (0, (0, 0), (0, 0))], ("place",), ("mixtures", ((part,), ())),
                      ("place", ((part,), ())), ("mixture", (0, (0, 0), (0, 0)))):
            self.fails(InvalidOperation, format_step_paper, AB, wrong)
        for value in kinds():
            plain = isinstance(value, tuple) and len(value) == 2 and value[:1] in (("place",), ("mixture",))
            if not plain:
                self.fails(InvalidOperation, format_step_paper, ("a",), value)
            if not papers.is_place(("a",), value):
                self.fails(InvalidOperation, format_step_paper, ("a",), ("place", value))
            if not papers.is_word(("a",), value):
                self.fails(InvalidOperation, format_step_paper, ("a",), ("mixture", ((((1, 1), value),), ())))
            if not papers.is_fraction(value) or value[0] <= 0:
                self.fails(InvalidOperation, format_step_paper, ("a",), ("mixture", (((value, ()),), ())))
            self.fails(InvalidOperation, format_step_paper, ("a",), ("mixture", ((((1, 1), ()),), (value,))))
            self.fails(InvalidOperation, format_step_paper, ("a",), ("mixture", ((value,), ())))

    def test_errors(self):
        for value in kinds():
            if not papers.is_word(("a",), value):
                self.fails(InvalidWord, format_word, ("a",), value)
            if not papers.is_place(("a",), value):
                self.fails(InvalidPlace, format_place, ("a",), value)
            if not isinstance(value, Net):
                self.fails(InvalidNet, format_net, value)
            if not (isinstance(value, tuple) and 1 <= len(value) <= 5 and all(is_int(one) for one in value)):
                self.fails(InvalidVector, format_vector, value)
            if not papers.is_fraction(value):
                self.fails(InvalidFraction, format_fraction, value)
            if not is_behaviour(value):
                self.fails(InvalidBehaviour, format_behaviour, value)
        for value in NO_BEHAVIOURS:
            self.fails(InvalidBehaviour, format_behaviour, value)
        self.fails(InvalidPlace, format_place, AB, (0, (0,), (0,)))


class Tables(Case):
    def test_table(self):
        net = Net(CP, (0, (1, 0), (0, 1)), (2, (0, 1), (1, 0)))
        self.same(marking_table(net, ("p", "c")), "-            0     2\np            1     1\nc            0     2")
        self.same(marking_table(net, ()), "-            0     2")
        self.same(marking_table(Net(CP), ("c", "p")), "-       \nc       \np       ")
        self.same(marking_table(Net((LONG,)), (LONG,)), "-       \n" + LONG)

    def test_columns(self):
        net = Net((LONG,), (99999, (0,), (1,)), (1234567, (1,), (0,)))
        self.same(marking_table(net, (LONG,)), "-        999991234567\n" + LONG + "1000001234566")
        chance = random.Random(295)
        for behaviour in behaviours(296, 40):
            net = least_net(behaviour)
            for word in net.runs(longest=3):
                lines = marking_table(net, word).split("\n")
                self.same(len(lines), len(word) + 1)
                for at, line in enumerate(lines):
                    name = word[at - 1] if at else "-"
                    self.same(line, f"{name:<8}" + "".join(f"{many:>6}" for many in net(word[:at])))
        self.assertTrue(chance.random() < 1)

    def test_errors(self):
        net = Net(("a",), (1, (1,), (0,)))
        for value in kinds():
            if not isinstance(value, Net):
                self.fails(InvalidNet, marking_table, value, None)
            if not papers.is_word(("a",), value):
                self.fails(InvalidWord, marking_table, net, value)
        self.fails(InvalidWord, marking_table, net, ("a",) * 201)
        self.fails_with(Avoidable, "place", net.places[0], marking_table, net, ("a", "a"))
        free = Net(("a",), (0, (0,), (1,)))
        self.same(len(marking_table(free, ("a",) * 200).split("\n")), 201)

    def test_time(self):
        start = time.process_time()
        net = least_net(TWO)
        text, other = format_net(net), format_behaviour(TWO)
        for _ in range(1500):
            parse_net(text)
            parse_behaviour(other)
            marking_table(net, ("a", "a", "x"))
        self.assertTrue(time.process_time() - start < 10)


if __name__ == "__main__":
    unittest.main()
