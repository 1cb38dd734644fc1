"""Tests of leastnet.compare.wishes: [0.16], [13.1]."""

import itertools
import random
import time
import unittest

from leastnet.compare.wishes import barring, barring_all, is_barring, thinned
from leastnet.errors import InvalidBehaviour, InvalidNet, InvalidOperation, InvalidWord, TooMany
from leastnet.nets.nets import Net
from leastnet.nets.places import first_barred
from leastnet.seen.behaviours import log_of
from leastnet.seen.respect import respects
from leastnet.steps.least import least_net, net_respects
from leastnet.steps.steps import is_unavoidable
from helpers import Case, kinds, same
from reference import AB, ABX, CP, FIVE, NO_BEHAVIOURS, NOTHING, TURN, TWO, allows_word, behaviours, words
from test_least import MANY
import papers

LOOP = (("a",), 1, ((0, "a", 0),))
ONCE = Net(("a",), (0, (1,), (0,)))
X1, X2 = (1, (0, 0, 1), (0, 0, 0)), (2, (0, 0, 1), (0, 0, 0))


def chance_words(chance, alphabet, many, longest=4):
    """Return a tuple of words by chance."""
    return tuple(tuple(chance.choice(alphabet) for _ in range(chance.randint(1, longest))) for _ in range(many))


class Barring(Case):
    def test_examples(self):
        found = [barring(TURN, ("p", "p"), ("c",))[0], barring(TURN, ("p", "p"), ("p", "c"))[:2], barring(TURN, ())[:2]]
        self.same(found, ["net", ("unavoidable", 1), ("unavoidable", 0)])

    def test_exactly_one_kind(self):
        chance = random.Random(231)
        found = {"net": 0, "unavoidable": 0}
        for behaviour in behaviours(232, 300):
            wished = chance_words(chance, behaviour[0], chance.randint(0, 4))
            paper = barring(behaviour, *wished)
            found[paper[0]] += 1
            self.assertTrue(papers.is_barring(behaviour, wished, paper), (behaviour, wished, paper))
            self.assertIs(is_barring(behaviour, wished, paper), True)
            kept = [at for at, word in enumerate(wished) if is_unavoidable(behaviour, word)]
            if kept:
                self.same(paper[:2], ("unavoidable", kept[0]))
            else:
                self.assertTrue(len(paper[1]) <= len(wished))
                self.assertIs(net_respects(behaviour, paper[1]), True)
                self.assertTrue(all(word not in paper[1] for word in wished))
            twin = barring_all(behaviour, wished)
            self.assertTrue(twin == paper)
        self.assertTrue(min(found.values()) > 80, found)

    def test_all_that_can_be_barred(self):
        # One net bars all words that can be barred at all; the least net does so.
        for behaviour in behaviours(233, 60):
            wished = tuple(word for word in words(behaviour[0], 3) if not is_unavoidable(behaviour, word))
            kind, net = barring_all(behaviour, wished)
            self.same(kind, "net")
            self.assertIs(is_barring(behaviour, wished, ("net", net)), True)
            self.assertIs(is_barring(behaviour, wished, ("net", least_net(behaviour))), True)
            self.assertTrue(all(word in net for word in words(behaviour[0], 3) if is_unavoidable(behaviour, word)))

    def test_edges(self):
        self.assertTrue(barring(NOTHING) == ("net", Net(("a",))))
        self.assertTrue(barring_all(TURN, ()) == ("net", Net(CP)))
        self.same(barring(NOTHING, ()), ("unavoidable", 0, ()))
        self.same(barring(NOTHING, ("a",), ()), ("unavoidable", 1, ()))
        word = ("p", "c") * 100
        kind, position, mixtures = barring(TURN, ("c",), word)
        self.same((kind, position, len(mixtures)), ("unavoidable", 1, 200))
        self.assertTrue(len(barring(TURN, ("c",), ("c",), ("c", "c"))[1]) <= 3)

    def test_number_of_words(self):
        wished = tuple(("a",) * 2 for _ in range(200))
        kind, net = barring_all(log_of(("a",), ("a",)), wished)
        self.same((kind, len(net) <= 200), ("net", True))
        self.fails_with(TooMany, "limit", 200, barring_all, log_of(("a",), ("a",)), wished + wished[:1])
        self.fails_with(TooMany, "limit", 200, barring, NOTHING, *[("a",)] * 201)
        some = words(("a", "b"), 7)[1:201]
        kind, net = barring(log_of(AB), *some)
        self.same((kind, len(net) <= 200, [word for word in some if word in net]), ("net", True, []))
        self.assertIs(is_barring(NOTHING, (("a",),) * 300, ("net", ONCE)), True)

    def test_errors(self):
        for value in NO_BEHAVIOURS:
            self.fails(InvalidBehaviour, barring, value)
            self.fails(InvalidBehaviour, barring, value, None)
            self.fails(InvalidBehaviour, barring_all, value, None)
        for value in kinds():
            right = papers.is_word(("a",), value)
            if not right:
                self.fails(InvalidWord, barring, NOTHING, value)
                self.fails(InvalidWord, barring, NOTHING, ("a",), value)
            if not isinstance(value, tuple) or not all(papers.is_word(("a",), one) for one in value):
                self.fails(InvalidWord, barring_all, NOTHING, value)
        self.fails(InvalidWord, barring, LOOP, ("a",) * 201)
        self.same(barring(LOOP, ("a",) * 200)[:2], ("unavoidable", 0))
        self.fails(InvalidWord, barring, NOTHING, *[("a",)] * 201, ("b",))
        self.fails_with(TooMany, "limit", 5000, barring, MANY)
        self.fails_with(TooMany, "limit", 5000, barring_all, MANY, ())
        self.fails_with(TooMany, "limit", 200, barring_all, MANY, (("a",),) * 201)
        self.fails(InvalidWord, barring, MANY, ("x",))

    def test_they_change_nothing(self):
        self.leaves(barring, TURN, ("p", "c"))
        self.assertTrue(barring(TWO, ("x",), ("a", "b")) == barring(TWO, ("x",), ("a", "b")))


class Checks(Case):
    def test_near_papers(self):
        chance = random.Random(234)
        seen = {True: 0, False: 0}
        for behaviour in behaviours(235, 250):
            wished = chance_words(chance, behaviour[0], chance.randint(1, 3), 3)
            paper = barring_all(behaviour, wished)
            for _ in range(8):
                value = papers.near(chance, paper)
                wanted = papers.is_barring(behaviour, wished, value)
                seen[wanted] += 1
                self.assertIs(is_barring(behaviour, wished, value), wanted, (behaviour, wished, value))
        self.assertTrue(min(seen.values()) > 100, seen)

    def test_any_number_of_places(self):
        many = Net.of(("a",), tuple((0, (1,), (more,)) for more in range(200)))
        self.assertIs(is_barring(NOTHING, (("a",),), ("net", many)), True)
        self.assertIs(is_barring(NOTHING, (), ("net", many)), True)
        self.assertIs(is_barring(NOTHING, (), ("net", Net(("a",)))), True)
        self.assertIs(is_barring(NOTHING, (("a",),), ("net", Net(("a",)))), False)
        self.assertIs(is_barring(LOOP, (), ("net", ONCE)), False)
        self.assertIs(is_barring(NOTHING, (), ("net", Net(AB))), False)

    def test_any_position(self):
        wished = (("p",), ("c",), ("p", "c"), ())
        first = barring_all(TURN, wished)
        self.same(first[:2], ("unavoidable", 0))
        third = barring_all(TURN, wished[2:])
        self.assertIs(is_barring(TURN, wished, ("unavoidable", 2, third[2])), True)
        self.assertIs(is_barring(TURN, wished, ("unavoidable", 3, ())), True)
        for wrong in (("unavoidable", 1, third[2]), ("unavoidable", 0, third[2]), ("unavoidable", 4, ()), ("unavoidable", -1, ()),
                      ("unavoidable", True, ()), ("unavoidable", 3), ("unavoidable", 3, (), ()), ["unavoidable", 3, ()], ("unavoidable", 3, []),
                      ("unavoidable", False, first[2]), ("avoidable", 3, ()), ("net", 3, ()), ("unavoidable", None, ())):
            self.assertIs(is_barring(TURN, wished, wrong), False, wrong)

    def test_any_value(self):
        self.answers(lambda value: is_barring(NOTHING, (("a",),), value), lambda value: False)
        self.assertIs(is_barring(NOTHING, (("a",),), ("net", ONCE)), True)
        self.answers(lambda value: is_barring(NOTHING, ((),), value), lambda value: same(value, ("unavoidable", 0, ())))
        self.answers(lambda value: is_barring(NOTHING, (("a",),), ("net", value)), lambda value: False)
        self.answers(lambda value: is_barring(NOTHING, ((),), ("unavoidable", value, ())), lambda value: same(value, 0))
        self.answers(lambda value: is_barring(NOTHING, ((),), ("unavoidable", 0, value)), lambda value: same(value, ()))
        self.answers(lambda value: is_barring(LOOP, (("a",),), ("unavoidable", 0, (value,))),
                     lambda value: same(value, ((((1, 1), ()),), ())))

    def test_errors(self):
        for value in NO_BEHAVIOURS:
            self.fails(InvalidBehaviour, is_barring, value, None, None)
        for value in kinds():
            if not isinstance(value, tuple) or not all(papers.is_word(("a",), one) for one in value):
                self.fails(InvalidWord, is_barring, NOTHING, value, None)
        self.fails(InvalidWord, is_barring, LOOP, (("a",) * 201,), None)
        self.assertIs(is_barring(MANY, (), ("net", Net(FIVE))), True)
        self.assertIs(is_barring(MANY, ((),) * 201, ("unavoidable", 200, ())), True)


class Thinned(Case):
    def test_example(self):
        self.same(thinned(TWO, Net(ABX, X1, X2), (("a", "a", "x", "x"),)).places, (X1,))

    def test_none_may_be_left_out(self):
        chance = random.Random(236)
        less = 0
        for behaviour in behaviours(237, 250):
            alphabet = behaviour[0]
            net = least_net(behaviour)
            wished = [word for word in chance_words(chance, alphabet, 6) if word not in net]
            wished = tuple(wished[:chance.randint(0, 6)])
            found = thinned(behaviour, net, wished)
            less += len(found) < len(net)
            self.assertTrue(set(found.places) <= set(net.places))
            self.same(found.alphabet, alphabet)
            self.assertTrue(all(word not in found for word in wished))
            for place in found.places:
                others = [other for other in found.places if other != place]
                self.assertTrue(any(all(allows_word(alphabet, other, word) for other in others) for word in wished))
        self.assertTrue(less > 100)

    def test_few_words_with_many_places(self):
        places = [(start, (1, 0), (0, gives)) for start in range(3) for gives in range(4)]
        for some in itertools.combinations(places, 3):
            net = Net(AB, *some)
            wished = tuple(word for word in (("a",) * 1, ("a",) * 2, ("a",) * 3, ("b", "a", "a")) if word not in net)
            if respects(log_of(AB, ("b", "b")), some[0]):
                found = thinned(log_of(AB, ("b", "b")), net, wished)
                self.assertIs(is_barring(log_of(AB), wished, ("net", found)), True)
                for place in found.places:
                    left = Net(AB, *[other for other in found.places if other != place])
                    self.assertIs(is_barring(log_of(AB), wished, ("net", left)), False)

    def test_edges(self):
        self.assertTrue(thinned(NOTHING, ONCE, ()) == Net(("a",)))
        self.assertTrue(thinned(NOTHING, Net(("a",)), ()) == Net(("a",)))
        self.assertTrue(thinned(NOTHING, ONCE, (("a",), ("a",))) == ONCE)
        many = Net.of(("a",), tuple((0, (1,), (more,)) for more in range(200)))
        self.same(len(thinned(NOTHING, many, (("a",),) * 300)), 1)
        self.same(len(thinned(MANY, Net.bound(FIVE, "a", 10), (("a",) * 11,))), 1)

    def test_errors(self):
        for value in NO_BEHAVIOURS:
            self.fails(InvalidBehaviour, thinned, value, None, None)
        for value in kinds():
            if not isinstance(value, Net) or value.alphabet != ("a",):
                self.fails(InvalidNet, thinned, NOTHING, value, None)
            if not isinstance(value, tuple) or not all(papers.is_word(("a",), one) for one in value):
                self.fails(InvalidWord, thinned, NOTHING, ONCE, value)
        good = {"behaviour": NOTHING, "net": ONCE, "words": (("a",),)}
        self.ordered(thinned, good, [
            ("behaviour", None, InvalidBehaviour, None), ("net", None, InvalidNet, None), ("words", None, InvalidWord, None),
            ("words", ((),), InvalidOperation, None), ("words", (("a",), ()), InvalidOperation, None),
            ("net", Net(("a",)), InvalidOperation, None),
        ])
        self.fails(InvalidOperation, thinned, LOOP, ONCE, (("a",),))
        self.fails(InvalidOperation, thinned, LOOP, ONCE, ())
        self.fails(InvalidWord, thinned, LOOP, ONCE, (("a",) * 201,))
        self.fails(InvalidNet, thinned, NOTHING, Net(AB), ())

    def test_many_small_calls(self):
        start = time.process_time()
        net = least_net(TWO)
        for _ in range(2000):
            barring(TWO, ("a", "b"), ("x",))
            thinned(TWO, net, (("a", "b"), ("x",)))
        self.assertTrue(time.process_time() - start < 10)
        self.same(first_barred(ABX, net.places[0], ("x",)), 0)


if __name__ == "__main__":
    unittest.main()
