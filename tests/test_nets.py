"""Tests of leastnet.nets.nets: [0.11] and stage 4."""

import itertools
import random
import unittest

from leastnet.errors import Avoidable, InvalidAlphabet, InvalidNumber, InvalidOperation, InvalidPlace, InvalidWord, TooMany
from leastnet.errors import UnknownName
from leastnet.nets import nets
from leastnet.nets.nets import Net
from leastnet.seen.behaviours import is_behaviour
from helpers import FORTY, Case, kinds, same
from reference import AB, ABX, CP, FIVE, allows, allows_word, counts, words

FILL = (0, (1, 0), (0, 1))
SPACE = (2, (0, 1), (1, 0))
NET = Net(CP, FILL, SPACE)
TWO_HUNDRED = tuple((number, (1,), (0,)) for number in range(200))


def chance_net(chance, alphabet, most=3):
    """Return a net by chance."""
    places = [
        (chance.randint(0, most), *(tuple(chance.randint(0, 2) for _ in alphabet) for _ in range(2)))
        for _ in range(chance.randint(0, 3))
    ]
    return Net(alphabet, *places)


def first_barred(net, word):
    """What `barred` tells, from the places one by one."""
    for position, action in enumerate(word):
        for place in net.places:
            if not allows(place, counts(net.alphabet, word[:position]), net.alphabet.index(action)):
                return position, place
    return None


def some_nets():
    """Return nets by chance."""
    chance = random.Random(31)
    return [chance_net(chance, chance.choice((("a",), AB, ABX, FIVE))) for _ in range(60)]


class Making(Case):
    def test_constants(self):
        self.same(nets.MAX_PLACES, 200)
        self.same((Net.MOST, NET.MOST), (200, 200))

    def test_examples(self):
        net = NET
        found = [net(("p", "p", "c")), net.enabled(("p", "p")), net.barred(("p", "c", "c")), ("c",) in net, str(net)]
        self.same(found, [(1, 1), ("c",), (2, (0, (1, 0), (0, 1))), False, "net of 2 places"])
        found = [net.graph()[1:], list(net.runs(longest=2)), len(net & Net.bound(CP, "p", 3))]
        edges = ((0, "p", 1), (1, "c", 0), (1, "p", 2), (2, "c", 1))
        self.same(found, [(3, edges), [(), ("p",), ("p", "c"), ("p", "p")], 3])

    def test_any_order_and_repeated(self):
        for places in itertools.permutations((FILL, SPACE, (2, (1, 0), (1, 0)), FILL)):
            self.same(Net(CP, *places).places, (FILL, (2, (0, 1), (1, 0)), (2, (1, 0), (1, 0))))
            self.assertEqual(Net(CP, *places), Net.of(CP, places))
        self.same(Net(CP).places, ())
        self.same(Net.of(CP, ()).places, ())
        self.same(NET.alphabet, CP)

    def test_limit(self):
        for many in (199, 200):
            self.same(len(Net(("a",), *TWO_HUNDRED[:many])), many)
        self.same(Net(("a",), *(TWO_HUNDRED * 3)[::-1]).places, TWO_HUNDRED)
        more = (*TWO_HUNDRED, (FORTY, (1,), (0,)))
        self.fails_with(TooMany, "limit", 200, Net, ("a",), *more)
        self.fails_with(TooMany, "limit", 200, Net.of, ("a",), more * 2)

    def test_wrong_places(self):
        right = [value for value in kinds() if same(value, (0, (0,), (0,)))]
        for value in kinds():
            if any(same(value, one) for one in right):
                Net(("a",), value)
            else:
                self.fails(InvalidPlace, Net, ("a",), value)
                self.fails(InvalidPlace, Net, ("a",), (0, (0,), (0,)), value)
                self.fails(InvalidPlace, Net.of, ("a",), (value,))
            if value.__class__ is not tuple:
                self.fails(InvalidPlace, Net.of, ("a",), value)
        for place in ((0, (0, 0), (0, 0)), (True, (0,), (0,)), (-1, (0,), (0,)), (0, (-1,), (0,)), (0, (0,), (True,))):
            self.fails(InvalidPlace, Net, ("a",), place)
            self.fails(InvalidPlace, Net, ("a",), *TWO_HUNDRED, (201, (1,), (0,)), place)

    def test_wrong_alphabets(self):
        for value in kinds():
            if value not in (("a",), ("solution",)):
                self.fails(InvalidAlphabet, Net, value, None)
                self.fails(InvalidAlphabet, Net.of, value, None)
                self.fails(InvalidAlphabet, Net.bound, value, None, None)

    def test_bound(self):
        self.same(Net.bound(ABX, "b", 7).places, ((7, (0, 1, 0), (0, 0, 0)),))
        self.same(Net.bound(("a",), "a", 0).places, ((0, (1,), (0,)),))
        self.same(Net.bound(("a",), "a", FORTY).places, ((FORTY, (1,), (0,)),))
        good = {"alphabet": ABX, "action": "x", "most": 3}
        wrong = [("alphabet", ("x", "a"), InvalidAlphabet, None), ("action", "c", UnknownName, "name"), ("most", -1, InvalidNumber, "value")]
        self.ordered(Net.bound, good, wrong)
        for value in kinds():
            if value != "a":
                self.fails_with(UnknownName, "name", value, Net.bound, AB[:1], value, None)
            if not (value.__class__ is int and value >= 0):
                self.fails_with(InvalidNumber, "value", value, Net.bound, AB, "a", value)

    def test_nothing_gives_access(self):
        places = [FILL, SPACE]
        net = Net(CP, *places)
        places.append((0, (1, 1), (0, 0)))
        self.same(net.places, (FILL, SPACE))
        with self.assertRaises(AttributeError):
            net.places = ()
        with self.assertRaises(AttributeError):
            net.alphabet = AB
        net.graph()
        list(net.runs())
        self.same(net(("p",)), (1, 1))

    def test_not_iterated(self):
        for net in (NET, Net(CP)):
            with self.assertRaises(TypeError):
                iter(net)
            with self.assertRaises(TypeError):
                list(net)


class Words(Case):
    def test_all_words(self):
        for net in some_nets():
            alphabet = net.alphabet
            for word in words(alphabet, 3):
                barred = first_barred(net, word)
                self.same(net.barred(word), barred)
                self.assertIs(word in net, barred is None)
                self.assertIs(word in net, all(allows_word(alphabet, place, word) for place in net.places))
                if barred is None:
                    found = counts(alphabet, word)
                    marking = [start + sum((g - t) * n for t, g, n in zip(takes, gives, found)) for start, takes, gives in net.places]
                    self.same(net(word), tuple(marking))
                    self.same(net.enabled(word), tuple(action for action in alphabet if (*word, action) in net))
                else:
                    self.fails_with(Avoidable, "place", barred[1], net, word)
                    self.fails_with(Avoidable, "place", barred[1], net.enabled, word)

    def test_first_place_of_the_first_step(self):
        net = Net(CP, (9, (0, 1), (0, 0)), (1, (0, 2), (0, 0)), (1, (0, 1), (0, 0)), (0, (1, 0), (0, 0)))
        self.same(net.barred(("p",)), (0, (1, (0, 2), (0, 0))))
        self.same(net.barred(("c", "p")), (0, (0, (1, 0), (0, 0))))
        self.fails_with(Avoidable, "place", (1, (0, 2), (0, 0)), net, ("p", "c"))
        net = Net(CP, (1, (0, 1), (0, 0)), (2, (0, 2), (0, 1)))
        self.same(net.barred(("p", "p")), (1, (1, (0, 1), (0, 0))))

    def test_gives_back_what_it_takes(self):
        net = Net(CP, (1, (1, 0), (1, 0)), (0, (0, 1), (0, 1)))
        self.same(net(("c",) * 200), (0, 1))
        self.same(net.barred(("c", "p")), (1, (0, (0, 1), (0, 1))))

    def test_long_words(self):
        turn = ("p", "c")
        self.same(NET(turn * 100), (0, 2))
        self.assertIs(turn * 100 in NET, True)
        self.assertIs(turn * 5000 in NET, True)
        self.assertIs(turn * 5000 + ("c",) in NET, False)
        for call in (NET, NET.barred, NET.enabled):
            call(turn * 100)
            self.fails(InvalidWord, call, turn * 100 + ("p",))
            self.fails(InvalidWord, call, ("c",) * 201)

    def test_wrong_words(self):
        net = Net(("a",))
        for call in (net, net.barred, net.enabled):
            self.refuses(InvalidWord, call, lambda value: value in ((), ("a",), ("a", "a")))
        for word in (("c", "a"), ("p", None), ["p"], "p", ("p", ("c",)), {"p": 1}, ("cp",)):
            for call in (NET, NET.barred, NET.enabled):
                self.fails(InvalidWord, call, word)
            self.assertIs(word in NET, False)

    def test_without_places(self):
        net = Net(AB)
        self.same(net(("a", "b")), ())
        self.same(net.enabled(()), AB)
        self.same(net.barred(("a",) * 200), None)
        self.same(net.graph(), (AB, 1, ((0, "a", 0), (0, "b", 0))))
        self.same((bool(net), len(net), str(net)), (False, 0, "net of 0 places"))

    def test_large_numbers(self):
        net = Net(("a",), (FORTY, (1,), (FORTY,)))
        self.same(net(("a",) * 200), (FORTY + 200 * (FORTY - 1),))
        self.same(Net(("a",), (FORTY - 1, (FORTY,), (0,))).enabled(()), ())


class Runs(Case):
    def test_all_runs(self):
        for net in some_nets():
            for longest in range(4):
                wanted = [word for word in words(net.alphabet, longest) if first_barred(net, word) is None]
                self.same(list(net.runs(longest=longest)), wanted)
        self.same(list(NET.runs()), list(NET.runs(longest=4)))
        self.assertEqual(max(map(len, NET.runs())), 4)

    def test_lengths(self):
        self.same(list(NET.runs(longest=0)), [()])
        self.same(list(Net(("a",)).runs(longest=8))[-1], ("a",) * 8)
        self.assertEqual(sum(1 for _ in Net(AB).runs(longest=8)), 511)
        self.assertEqual(sum(1 for _ in Net(FIVE).runs(longest=6)), sum(5 ** many for many in range(7)))
        self.same(list(Net(AB, (0, (1, 1), (0, 0))).runs(longest=8)), [()])

    def test_errors_when_the_first_is_asked_for(self):
        for value in kinds():
            found = NET.runs(longest=value)
            if value.__class__ is int and 0 <= value <= 8:
                self.same(next(found), ())
            else:
                self.fails_with(InvalidNumber, "value", value, next, found)
        self.fails_with(InvalidNumber, "value", 9, next, NET.runs(longest=9))
        with self.assertRaises(TypeError):
            NET.runs(3)

    def test_two_at_once(self):
        wanted = list(NET.runs(longest=5))
        one, other = NET.runs(longest=5), NET.runs(longest=5)
        self.same([word for pair in zip(one, other) for word in pair], [word for word in wanted for _ in range(2)])


class Graphs(Case):
    def test_numbers(self):
        for net in some_nets():
            try:
                behaviour = net.graph(most=40)
            except TooMany:
                continue
            self.assertIs(is_behaviour(behaviour), True)
            markings = []
            for word in words(net.alphabet, 4):
                if word in net and net(word) not in markings:
                    markings.append(net(word))
            steps = {(state, action): target for state, action, target in behaviour[2]}
            self.assertEqual(len(steps), len(behaviour[2]))
            for word in words(net.alphabet, 4):
                state = 0
                for action in word:
                    state = steps.get((state, action)) if state is not None else None
                self.assertEqual(state is not None, word in net)
                if state is not None:
                    self.assertEqual(markings[state], net(word))

    def test_limits(self):
        for many in (0, 1, 10, 149):
            net = Net.bound(AB, "a", many)
            self.same(net.graph(most=many + 1)[1], many + 1)
            self.same(net.graph()[1], many + 1)
            if many:
                self.fails_with(TooMany, "limit", many, net.graph, most=many)
        self.fails_with(TooMany, "limit", 150, Net.bound(AB, "a", 150).graph)
        self.fails_with(TooMany, "limit", 150, Net(AB, (0, (0, 1), (1, 0))).graph)
        self.fails_with(TooMany, "limit", 7, Net(("a",), (0, (0,), (1,))).graph, most=7)

    def test_wrong_numbers(self):
        endless = Net(("a",), (0, (0,), (1,)))
        for value in [*kinds(), 150, 151]:
            if not (value.__class__ is int and 1 <= value <= 150):
                self.fails_with(InvalidNumber, "value", value, NET.graph, most=value)
                self.fails_with(InvalidNumber, "value", value, endless.graph, most=value)
        with self.assertRaises(TypeError):
            NET.graph(5)


class Operators(Case):
    def test_and(self):
        both = Net(CP, FILL) & Net(CP, SPACE, FILL)
        self.assertEqual(both, NET)
        self.same(both.places, (FILL, SPACE))
        self.same((Net(CP) & Net(CP)).places, ())
        for word in words(CP, 4):
            self.assertEqual(word in both, word in Net(CP, FILL) and word in Net(CP, SPACE))

    def test_and_limit(self):
        net = Net(("a",), *TWO_HUNDRED)
        self.same((net & net).places, TWO_HUNDRED)
        self.same((net & Net(("a",))).places, TWO_HUNDRED)
        with self.assertRaises(TooMany) as caught:
            net & Net.bound(("a",), "a", 200)
        self.same(caught.exception.limit, 200)
        self.same(net.places, TWO_HUNDRED)

    def test_and_of_anything_else(self):
        full = Net(("a",), *TWO_HUNDRED)
        for net in (full, NET):
            for value in [*kinds(), Net(("b",), *TWO_HUNDRED)]:
                if not (isinstance(value, Net) and value.alphabet == net.alphabet):
                    with self.assertRaises(InvalidOperation):
                        net & value

    def test_in_takes_any_value(self):
        net = Net(("a",), (1, (1,), (0,)))
        for value in kinds():
            self.assertIs(value in net, same(value, ()) or same(value, ("a",)), value)
        self.assertIs(("a", "a") in net, False)

    def test_equal_to_any_value(self):
        for net in (Net(("a",)), NET, Net(("b",))):
            for value in kinds():
                wanted = isinstance(value, Net) and (value.alphabet, value.places) == (net.alphabet, net.places)
                self.assertIs(net == value, wanted)
                self.assertIs(value == net, wanted)
                self.assertIs(net != value, not wanted)
                self.assertIs(value != net, not wanted)
        self.assertIs(NET == Net(CP, SPACE, FILL, SPACE), True)
        self.assertIs(Net(CP) == Net(AB), False)
        self.assertIs(NET == Net(CP, FILL), False)

    def test_bool_len_str(self):
        for many in (0, 1, 2, 200):
            net = Net(("a",), *TWO_HUNDRED[:many])
            self.same((bool(net), len(net), str(net)), (many > 0, many, f"net of {many} places"))


if __name__ == "__main__":
    unittest.main()
