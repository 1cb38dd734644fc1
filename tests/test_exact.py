"""Tests of leastnet.exact.exact: [0.16], [0.17], [15.1] to [15.3]."""

import random
import time
import unittest
from unittest import mock

from leastnet.compare.sums import told_sums
from leastnet.errors import InvalidBehaviour, TooMany
from leastnet.exact.exact import exact_paper, has_exact_net, is_exact_paper
from leastnet.nets.nets import Net
from leastnet.nets.places import change_of
from leastnet.seen.behaviours import behaviour_of, log_of, settled
from leastnet.steps.least import least_net
from helpers import Case, same
from reference import AB, ABX, CP, FIVE, NO_BEHAVIOURS, NOTHING, TURN, TWO, behaviours, null_space, product
from test_least import MANY
import papers
import reference

LOOP = (("a",), 1, ((0, "a", 0),))
TWICE = behaviour_of(CP, (0, "c", 1), (0, "p", 2), (1, "p", 3), (2, "c", 4))
TURNED = (0, (1, 0), (0, 1)), (1, (0, 1), (1, 0))


def graphs(seed, many):
    """Return graphs of nets by chance: each has an exact net."""
    chance = random.Random(seed)
    found = []
    while len(found) < many:
        alphabet = chance.choice((AB, ABX, ("a",)))
        places = [
            (chance.randint(0, 2), *(tuple(chance.choice((0, 0, 1, 1, 2)) for _ in alphabet) for _ in range(2)))
            for _ in range(chance.randint(1, 4))
        ]
        try:
            found.append(Net(alphabet, *places).graph(most=12))
        except TooMany:
            continue
    return found


def logs(seed, many):
    """Return settled behaviours: no state has two edges of one action."""
    chance = random.Random(seed)
    found = []
    for _ in range(many):
        alphabet = chance.choice((AB, ABX))
        words = [[chance.choice(alphabet) for _ in range(chance.randint(0, 4))] for _ in range(chance.randint(1, 3))]
        found.append(log_of(alphabet, *map(tuple, words)))
    return found + [settled(one) for one in behaviours(seed, many, size=4, more=3)]


def lines(seed, many):
    """Return behaviours with a line of a, and b or c behind some of its states."""
    chance = random.Random(seed)
    found = []
    for _ in range(many):
        size = chance.randint(2, 6)
        edges = [(state, "a", state + 1) for state in range(size)]
        edges += [(state, "b", 10 + state) for state in range(size + 1) if chance.random() < 0.5]
        edges += [(10 + state, "x", 20 + chance.randint(0, size)) for state in range(size + 1) if chance.random() < 0.2]
        found.append(behaviour_of(ABX, *edges))
    return found


def told_apart(behaviour):
    """Return for each state its sums for vectors that are told by the state."""
    alphabet, size, edges = behaviour
    first = {path[-1][2] if path else 0: reference.counts(alphabet, reference.word_of(path)) for path in reference.paths(behaviour)}
    rows = []
    for state, action, target in edges:
        behind = [one + (other == action) for one, other in zip(first[state], alphabet)]
        rows.append([one - less for one, less in zip(behind, first[target])])
    space = null_space(rows, len(alphabet))
    return [tuple(product(row, first[state]) for row in space) for state in range(size)]


def has_net(behaviour):
    """Tell by [15.3] whether there is an exact net: with a place for each two states and each missing edge."""
    marks = told_apart(behaviour)
    if len(set(marks)) < len(marks):
        return False
    for action in behaviour[0]:
        ends = [state for state in range(behaviour[1]) if papers.has_edge(behaviour, state, action)]
        for state in range(behaviour[1]):
            if ends and state not in ends:
                columns = [(1, *marks[end]) for end in ends]
                if reference.cone_solution(columns, (1, *marks[state])):
                    return False
    return True


class Exact(Case):
    def test_examples(self):
        found = [exact_paper(TURN)[0], exact_paper(log_of(CP, ("c", "p"), ("p", "c")))[0], has_exact_net(log_of(CP, ("c", "p")))]
        self.same(found, ["net", "net", True])
        self.same([exact_paper(TWICE)[0], is_exact_paper(TWICE, ("states", ("c", "p"), ("p", "c"), ()))], ["states", True])

    def test_exactly_one_kind(self):
        found = {"net": 0, "states": 0, "action": 0}
        for behaviour in [*behaviours(261, 150, size=4, more=3), *graphs(262, 100), *logs(263, 200), *lines(274, 80)]:
            paper = exact_paper(behaviour)
            found[paper[0]] += 1
            self.assertIs(is_exact_paper(behaviour, paper), True)
            if paper[0] != "net" or len(behaviour[0]) ** behaviour[1] < 300:
                self.assertTrue(papers.is_exact_paper(behaviour, paper), (behaviour, paper))
            wanted = has_net(behaviour)
            self.assertEqual(paper[0] == "net", wanted, behaviour)
            self.assertIs(has_exact_net(behaviour), wanted)
        self.assertTrue(min(found.values()) > 15, found)

    def test_graphs_of_nets(self):
        for behaviour in graphs(264, 150):
            self.assertIs(has_exact_net(behaviour), True)

    def test_net_against_its_own_graph(self):
        found = 0
        for behaviour in [*graphs(265, 120), *logs(266, 120)]:
            paper = exact_paper(behaviour)
            if paper[0] != "net":
                continue
            found += 1
            _, net, markings = paper
            alphabet, size, edges = behaviour
            graph = net.graph()
            self.same((graph[1], len(graph[2])), (size, len(edges)))
            # The markings lead from the states of one to those of the other.
            numbers = {}
            for word in net.runs(longest=6):
                for state in reference.states(behaviour, word):
                    self.assertEqual(net(word), markings[state])
                    numbers.setdefault(state, min(reference.states(graph, word)))
            if len(numbers) == size:
                turned = {(numbers[state], action, numbers[target]) for state, action, target in edges}
                self.same(tuple(sorted(turned)), graph[2])
            self.same(list(net.runs(longest=5)), reference.runs(behaviour, 5))
            self.same(list(least_net(behaviour).runs(longest=5)), reference.runs(behaviour, 5))
            # Each place has a change that is told by the state.
            rows = told_sums(behaviour)
            for place in net.places:
                self.same(len(reference.plain_rows([*rows, change_of(place)])), len(rows))
        self.assertTrue(found > 100)

    def test_two_edges_of_one_action(self):
        behaviour = behaviour_of(AB, (0, "a", 1), (0, "a", 2), (1, "b", 0))
        self.same(exact_paper(behaviour)[0], "states")
        self.assertIs(has_exact_net(behaviour), False)
        self.assertIs(is_exact_paper(behaviour, ("states", ("a",), ("a",), ())), True)
        self.assertIs(is_exact_paper(behaviour, ("states", ("a", "b"), ("a", "b"), ())), False)
        self.assertIs(is_exact_paper(behaviour, ("states", (), ("a", "b"), ())), False)
        for other in behaviours(267, 200):
            twins = [
                (one, two) for one in other[2] for two in other[2] if one[:2] == two[:2] and one[2] < two[2]
            ]
            if twins:
                self.assertIs(has_exact_net(other), False)

    def test_states_that_differ_in_no_sum(self):
        # The states are told apart by no sum, since a b and c lead to one state, and a and b to others.
        alphabet = ("a", "b", "c")
        behaviour = behaviour_of(alphabet, (0, "a", 1), (1, "b", 2), (0, "c", 2), (2, "a", 3), (3, "b", 4), (2, "c", 5))
        paper = exact_paper(behaviour)
        self.same(paper[0], "states")
        self.assertTrue(papers.is_exact_paper(behaviour, paper))
        self.assertTrue(len(paper[3]) > 0)

    def test_an_action_that_cannot_be_barred(self):
        # b is there at both ends, so it is in the middle.
        behaviour = behaviour_of(AB, (0, "b", 1), (0, "a", 2), (2, "a", 3), (3, "b", 4))
        paper = exact_paper(behaviour)
        self.same(paper[:3], ("action", ("a",), "b"))
        self.assertIs(is_exact_paper(behaviour, ("action", ("a",), "b", (((1, 2), ()), ((1, 2), ("a", "a"))), ())), True)
        self.assertIs(is_exact_paper(behaviour, ("action", ("a",), "b", (((1, 2), ("a", "a")), ((1, 4), ()), ((1, 4), ())), ())), True)
        self.assertIs(is_exact_paper(behaviour, ("action", ("a", "a"), "b", (((1, 1), ("a", "a")),), ())), False)
        self.assertIs(is_exact_paper(behaviour, ("action", ("a",), "b", (((1, 2), ()), ((1, 2), ("a",))), ())), False)

    def test_the_least_net_alone_is_not_enough(self):
        # [0.17]: it allows the seen runs alone, but there is no exact net.
        self.same(list(least_net(TWICE).runs(longest=8)), reference.runs(TWICE, 5))
        self.assertIs(has_exact_net(TWICE), False)
        self.assertIs(has_exact_net(settled(TWICE)), True)

    def test_edges(self):
        self.same(exact_paper(NOTHING)[0], "net")
        self.assertIs(is_exact_paper(NOTHING, exact_paper(NOTHING)), True)
        self.assertTrue(exact_paper(LOOP) == ("net", Net(("a",)), ((),)))
        full = (FIVE, 1, tuple((0, action, 0) for action in FIVE))
        self.assertTrue(exact_paper(full) == ("net", Net(FIVE), ((),)))
        self.same(exact_paper((FIVE, 1, ()))[0], "net")
        self.assertIs(has_exact_net(TWO), False)
        # More simple paths than may be looked at elsewhere do not matter here.
        self.same((exact_paper(MANY)[0], has_exact_net(MANY)), ("net", True))
        self.assertIs(is_exact_paper(MANY, exact_paper(MANY)), True)

    def test_many_missing_edges(self):
        # A line of 150 states: at most 150 pairs lack an edge, so a net is found.
        line = behaviour_of(("a",), *[(state, "a", state + 1) for state in range(149)])
        kind, net, markings = exact_paper(line)
        self.same((kind, len(markings), len(net) <= 6), ("net", 150, True))
        self.assertIs(is_exact_paper(line, (kind, net, markings)), True)
        grid = Net(AB, (11, (1, 0), (0, 0)), (11, (0, 1), (0, 0))).graph(most=144)
        self.assertIs(is_exact_paper(grid, exact_paper(grid)), True)
        # A curve on which every other state is a corner, each with its own action missing.
        chance = random.Random(268)
        for _ in range(10):
            states = {(0, 0)}
            for _ in range(40):
                x, y = chance.choice(sorted(states))
                states.add(chance.choice(((x + 1, y), (x, y + 1))))
            numbers = {state: at for at, state in enumerate(sorted(states))}
            edges = [(numbers[x, y], "a", numbers[x + 1, y]) for x, y in states if (x + 1, y) in states]
            edges += [(numbers[x, y], "b", numbers[x, y + 1]) for x, y in states if (x, y + 1) in states]
            behaviour = behaviour_of(AB, *edges)
            self.assertIs(is_exact_paper(behaviour, exact_paper(behaviour)), True)

    def test_too_many_places(self):
        # So many are hard to come by, so the places are put in here.
        places = [(0, (1,), (0,)), *[(many, (1,), (0,)) for many in range(1, 201)]]
        with mock.patch("leastnet.exact.exact.searched", lambda told: (None, places)):
            self.fails_with(TooMany, "limit", 200, exact_paper, NOTHING)
            self.assertIs(has_exact_net(NOTHING), True)
        with mock.patch("leastnet.exact.exact.searched", lambda told: (None, places[:200])):
            self.same(len(exact_paper(NOTHING)[1]), 200)


class Papers(Case):
    def test_near_papers(self):
        chance = random.Random(269)
        seen = {True: 0, False: 0}
        for behaviour in [*graphs(270, 60), *logs(271, 150), *behaviours(272, 60, size=3, more=3), *lines(275, 60)]:
            paper = exact_paper(behaviour)
            if paper[0] == "net" and len(behaviour[0]) ** behaviour[1] > 300:
                continue
            for _ in range(6):
                value = papers.near(chance, paper)
                wanted = papers.is_exact_paper(behaviour, value)
                seen[wanted] += 1
                self.assertIs(is_exact_paper(behaviour, value), wanted, (behaviour, value))
        self.assertTrue(min(seen.values()) > 100, seen)

    def test_nets(self):
        net = Net(CP, *TURNED)
        self.assertIs(is_exact_paper(TURN, ("net", net, ((0, 1), (1, 0)))), True)
        for wrong in (((1, 0), (0, 1)), ((0, 1),), ((0, 1), (0, 1)), ((0, True), (1, 0)), ((False, 1), (1, 0)), [(0, 1), (1, 0)], ([0, 1], (1, 0)),
                      ((0, 1), (1, 0), (0, 1)), ((0,), (1,)), (), None, ((0, 1), (1, -1)), ((0, 1, 0), (1, 0, 0))):
            self.assertIs(is_exact_paper(TURN, ("net", net, wrong)), False, wrong)
        self.assertIs(is_exact_paper(TURN, ("net", Net(CP, TURNED[0]), ((0,), (1,)))), False)
        self.assertIs(is_exact_paper(TURN, ("net", Net(CP, TURNED[1]), ((1,), (0,)))), False)
        self.assertIs(is_exact_paper(TURN, ("net", net, ((0, 1), (1, 0)), ())), False)
        self.assertIs(is_exact_paper(TURN, ["net", net, ((0, 1), (1, 0))]), False)
        self.assertIs(is_exact_paper(TURN, ("net", Net(AB, *TURNED), ((0, 1), (1, 0)))), False)
        self.assertIs(is_exact_paper(TURN, ("net", TURNED, ((0, 1), (1, 0)))), False)
        # A net with more places than are needed, as long as it is exact.
        more = Net(CP, *TURNED, (5, (0, 0), (0, 0)), (1, (0, 2), (2, 0)))
        self.assertIs(is_exact_paper(TURN, ("net", more, tuple(zip(*((place[0], place[0] + change_of(place)[1]) for place in more.places))))), False)
        more = Net(CP, *TURNED, (5, (0, 0), (0, 0)), (2, (0, 2), (2, 0)))
        self.assertIs(is_exact_paper(TURN, ("net", more, tuple(zip(*((place[0], place[0] + change_of(place)[1]) for place in more.places))))), True)
        # A marking may be above what is needed; a place may not bar what is there.
        self.assertIs(is_exact_paper(LOOP, ("net", Net(("a",), (0, (0,), (0,))), ((0,),))), True)
        self.assertIs(is_exact_paper(LOOP, ("net", Net(("a",), (0, (0,), (1,))), ((0,),))), False)
        self.assertIs(is_exact_paper(LOOP, ("net", Net(("a",), (0, (1,), (1,))), ((0,),))), False)
        self.assertIs(is_exact_paper(NOTHING, ("net", Net(("a",)), ((),))), False)
        # Different states have different markings.
        both = behaviour_of(("a",), (0, "a", 1), (1, "a", 0))
        self.assertIs(is_exact_paper(both, ("net", Net(("a",)), ((), ()))), False)
        self.assertIs(is_exact_paper(both, ("net", Net(("a",), (5, (1,), (1,))), ((5,), (5,)))), False)

    def test_pairs(self):
        alphabet = ("a", "b", "c")
        behaviour = behaviour_of(alphabet, (0, "a", 1), (1, "b", 2), (0, "c", 2), (2, "a", 3), (3, "b", 4), (2, "c", 5))
        one, other = ("a", "b", "a", "b"), ("c", "c")
        pair = (2, 1), ("a", "b"), ("c",)
        half = (1, 1), ("a", "b"), ("c",)
        self.assertIs(is_exact_paper(behaviour, ("states", one, other, (pair,))), True)
        for right in ((half, half), (((-2, 1), ("c",), ("a", "b")),), (pair, half, ((-1, 1), ("a", "b"), ("c",))),
                      (((2, 1), ("a", "b", "c"), ("c", "c")),), (((-1, 3), ("c",), ("c",)), pair), (((5, 3), *pair[1:]), ((1, 3), *pair[1:]))):
            self.assertIs(is_exact_paper(behaviour, ("states", one, other, right)), True, right)
            self.assertIs(is_exact_paper(behaviour, ("states", one, other, right[::-1])), True, right)
            self.assertIs(is_exact_paper(behaviour, ("states", other, one, right)), False, right)
        for wrong in ((), (half,), (pair, pair), (((4, 2), *pair[1:]),), (((2, 1), ("a",), ("c",)),), (pair, ((0, 1), *pair[1:])), [pair], None,
                      (list(pair),), (pair[:2],), ((*pair, ()),), (pair, ()), (((2, 1), ["a", "b"], ("c",)),), (((2, 1), ("a", "b"), ("b",)),),
                      (((-2, 1), *pair[1:]),), (((2, 1), (), ()), pair, ((1, 1), ("b",), ("b",)))):
            self.assertIs(is_exact_paper(behaviour, ("states", one, other, wrong)), False, wrong)
        self.assertIs(is_exact_paper(behaviour, ("states", one, other, (((2, 1), (), ()), pair))), True)
        self.assertIs(is_exact_paper(behaviour, ("states", one, one, ())), False)
        self.assertIs(is_exact_paper(behaviour, ("states", ("a",) * 4, ("a",), ())), False)
        self.assertIs(is_exact_paper(behaviour, ("states", one, other, (pair,), ())), False)
        self.assertIs(is_exact_paper(behaviour, ("states", one, other)), False)
        long = ("p", "c") * 300
        self.assertIs(is_exact_paper(TURN, ("states", long, ("p",), ())), False)
        self.assertIs(is_exact_paper(TURN, ("states", long, ("p", "p"), ())), False)

    def test_words_that_lead_to_several_states(self):
        behaviour = behaviour_of(AB, (0, "a", 1), (0, "a", 2), (1, "b", 1))
        self.assertIs(is_exact_paper(behaviour, ("action", ("a",), "b", (((1, 1), ("a",)),), ())), True)
        self.assertIs(is_exact_paper(behaviour, ("action", ("a", "b"), "b", (((1, 1), ("a", "b")),), ())), False)
        self.assertIs(is_exact_paper(behaviour, ("action", ("a",), "a", (((1, 1), ()),), ())), False)
        self.assertIs(is_exact_paper(behaviour, ("states", ("a",), ("a", "b"), (((1, 1), ("a",), ("a", "b")),))), True)
        self.assertIs(is_exact_paper(behaviour, ("states", ("a",), ("a",), ())), True)
        # Each pair of states that can be reached counts.
        self.assertIs(is_exact_paper(behaviour, ("states", ("a", "b"), ("a",), (((-1, 1), ("a",), ("a", "b")),))), True)

    def test_any_value(self):
        right = ("net", Net(("a",)), ((),))
        self.answers(lambda value: is_exact_paper(LOOP, value), lambda value: repr(value)[:6] == "('net'" and len(value) == 3 and value == right)
        self.answers(lambda value: is_exact_paper(LOOP, ("net", value, ((),))), lambda value: isinstance(value, Net) and value == right[1])
        self.answers(lambda value: is_exact_paper(LOOP, ("net", right[1], value)), lambda value: same(value, ((),)))
        both = behaviour_of(("a",), (0, "a", 0), (0, "a", 1))
        self.assertIs(is_exact_paper(both, ("states", ("a",), ("a",), ())), True)
        self.answers(lambda value: is_exact_paper(both, ("states", value, ("a",), ())), lambda value: same(value, ("a",)))
        self.answers(lambda value: is_exact_paper(both, ("states", ("a",), ("a",), value)), lambda value: same(value, ()))
        self.answers(lambda value: is_exact_paper(both, ("states", ("a",), ("a",), (value,))), lambda value: False)
        self.answers(lambda value: is_exact_paper(both, ("states", ("a",), ("a",), ((value, (), ()),))),
                     lambda value: papers.is_fraction(value) and value[0] != 0)
        self.assertIs(is_exact_paper(both, ("action", ("a",), "a", (((1, 1), ("a",)),), ())), True)
        for at, wanted in ((1, ("a",)), (2, "a"), (3, (((1, 1), ("a",)),)), (4, ())):
            paper = ["action", ("a",), "a", (((1, 1), ("a",)),), ()]

            def call(value, at=at, paper=paper):
                return is_exact_paper(both, (*paper[:at], value, *paper[at + 1:]))

            self.answers(call, lambda value, wanted=wanted: same(value, wanted))

    def test_errors(self):
        for call in (exact_paper, has_exact_net, lambda value: is_exact_paper(value, None)):
            for value in NO_BEHAVIOURS:
                self.fails(InvalidBehaviour, call, value)
        self.leaves(has_exact_net, TWICE)
        self.leaves(exact_paper, TWICE)

    def test_time(self):
        start = time.process_time()
        for _ in range(1000):
            exact_paper(TURN)
            has_exact_net(TWICE)
            is_exact_paper(TWICE, exact_paper(TWICE))
        chance = random.Random(273)
        for _ in range(3):
            edges = [(state, chance.choice(FIVE), state + 1) for state in range(149)]
            exact_paper(behaviour_of(FIVE, *edges))
        self.assertTrue(time.process_time() - start < 20)


if __name__ == "__main__":
    unittest.main()
