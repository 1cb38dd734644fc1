"""Tests of leastnet.steps.least: [0.16], [0.17] and [10.1]."""

import random
import time
import unittest

from leastnet.errors import InvalidBehaviour, InvalidNet, InvalidNumber, TooMany
from leastnet.hulls.faces import faces
from leastnet.nets.nets import Net
from leastnet.seen.behaviours import behaviour_of, log_of, settled, united
from leastnet.seen.circles import points_of, rays_of
from leastnet.seen.respect import is_respect_paper, respects
from leastnet.steps.least import count_unavoidable, least_net, net_paper, net_respects, unavoidable_words
from leastnet.steps.steps import is_unavoidable, place_of_bound
from helpers import Case, kinds
from reference import AB, ABX, CP, FIVE, NO_BEHAVIOURS, NOTHING, TURN, TWO, behaviours, is_int, words
import reference

MANY = behaviour_of(FIVE, *[(state, action, state + 1) for state in range(9) for action in FIVE])  # too many paths
FREE = (FIVE, 1, tuple((0, action, 0) for action in FIVE))


def places_by_faces(behaviour):
    """Return the places of the least net, as [10.1] names them."""
    alphabet = behaviour[0]
    rays = tuple(rays_of(behaviour))
    found = set()
    for action in alphabet:
        points = tuple(points_of(behaviour, action))
        if points:
            equations, inequalities = reference.faces(points, rays)
            pairs = [*equations, *inequalities, *((tuple(-number for number in u), -v) for u, v in equations)]
        else:
            pairs = [((0,) * len(alphabet), -1)]
        found |= {place_of_bound(behaviour, action, u, v) for u, v in pairs}
    return tuple(sorted(place for place in found if any(place[1])))


def two_halls(chance, many, longest):
    """Return edges of many words one after the other, each time any one of them, and the state behind them."""
    edges = []
    for hall in (0, 1):
        for number in range(many):
            word = [chance.choice(FIVE) for _ in range(chance.randint(1, longest))]
            first = 1000 * (hall + 1) + 100 * number
            states = [8000 * hall, *range(first + 1, first + len(word)), 8000 * (hall + 1)]
            edges += list(zip(states, word, states[1:]))
    return edges, 16000


def limit_of_faces(behaviour, action):
    """Return the limit that the faces of an action exceed, or None."""
    try:
        faces(tuple(points_of(behaviour, action)), tuple(rays_of(behaviour)))
    except TooMany as error:
        return error.limit
    return None


class LeastNets(Case):
    def test_examples(self):
        self.same(least_net(TURN).places, ((0, (1, 0), (0, 1)), (0, (1, 0), (1, 1)), (1, (0, 1), (1, 0))))
        self.same(list(unavoidable_words(TWO, longest=3)), [(), ("a",), ("b",), ("a", "a"), ("b", "b"), ("a", "a", "x"), ("b", "b", "x")])
        self.same(count_unavoidable(TURN, longest=4), (1, 1, 1, 1, 1))

    def test_places_of_all_faces(self):
        for behaviour in behaviours(131, 150):
            net = least_net(behaviour)
            self.assertIsInstance(net, Net)
            self.same(net.alphabet, behaviour[0])
            self.same(net.places, places_by_faces(behaviour))

    def test_runs_are_the_unavoidable_words(self):
        for behaviour in behaviours(132, 80):
            alphabet = behaviour[0]
            net = least_net(behaviour)
            longest = 4 if len(alphabet) < 3 else 3
            wanted = [word for word in words(alphabet, longest) if is_unavoidable(behaviour, word)]
            self.same(list(net.runs(longest=longest)), wanted)
            self.same(list(unavoidable_words(behaviour, longest=longest)), wanted)
            many = [sum(len(word) == length for word in wanted) for length in range(longest + 1)]
            self.same(count_unavoidable(behaviour, longest=longest), tuple(many))

    def test_respects_the_behaviour(self):
        for behaviour in behaviours(133, 100):
            net = least_net(behaviour)
            self.assertIs(net_respects(behaviour, net), True)
            self.assertTrue(all(run in net for run in reference.runs(behaviour, 5)))
            kind, papers = net_paper(behaviour, net)
            self.same((kind, len(papers)), ("respects", len(net)))
            for place, paper in zip(net.places, papers):
                self.assertIs(is_respect_paper(behaviour, place, paper), True)

    def test_no_net_is_stricter(self):
        chance = random.Random(134)
        for behaviour in behaviours(135, 150):
            wide = len(behaviour[0])
            place = (chance.randint(0, 3), *(tuple(chance.choice((0, 0, 1, 2)) for _ in range(wide)) for _ in range(2)))
            if respects(behaviour, place):
                other = Net(behaviour[0], place)
                self.assertTrue(all(word in other for word in least_net(behaviour).runs(longest=4)))

    def test_it_depends_on_the_unavoidable_words_alone(self):
        for behaviour in behaviours(136, 80):
            net = least_net(behaviour)
            self.assertEqual(least_net(settled(behaviour)), net)
            # Each unavoidable word can be seen, too: nothing changes, in whatever order they come.
            alphabet = behaviour[0]
            more = [word for word in words(alphabet, 3) if is_unavoidable(behaviour, word)]
            both = united(log_of(alphabet, *more[::-1]), behaviour)
            self.same(least_net(both).places, net.places)
            self.same(least_net(united(behaviour, log_of(alphabet, *more))).places, net.places)

    def test_never_seen(self):
        self.same(least_net(NOTHING).places, ((0, (1,), (1,)),))
        self.same(least_net((AB, 1, ())).places, ((0, (0, 1), (0, 1)), (0, (1, 0), (1, 0))))
        net = least_net(log_of(ABX, ("a",)))
        self.assertIn((0, (0, 1, 0), (0, 1, 0)), net.places)
        self.assertIn((0, (0, 0, 1), (0, 0, 1)), net.places)
        self.same(list(net.runs()), [(), ("a",)])
        self.same(list(unavoidable_words(NOTHING, longest=8)), [()])
        self.same(count_unavoidable(NOTHING, longest=8), (1, 0, 0, 0, 0, 0, 0, 0, 0))

    def test_places_that_take_nothing(self):
        self.same(least_net(FREE).places, ())
        self.same(least_net((("a",), 1, ((0, "a", 0),))).places, ())
        for behaviour in behaviours(137, 60):
            for _, takes, _ in least_net(behaviour).places:
                self.assertTrue(any(takes))

    def test_two(self):
        net = least_net(TWO)
        self.assertIs(("a", "a", "x") in net, True)
        self.assertIs(("a", "b") in net, False)
        self.same(list(net.runs(longest=4)), reference.runs(TWO, 4))
        self.same(list(net.places), sorted(set(net.places)))

    def test_errors(self):
        for call in (least_net, lambda value: next(unavoidable_words(value, longest=None)), lambda value: count_unavoidable(value, longest=None),
                     lambda value: net_respects(value, None), lambda value: net_paper(value, None)):
            for value in NO_BEHAVIOURS:
                self.fails(InvalidBehaviour, call, value)
        self.fails_with(TooMany, "limit", 5000, least_net, MANY)

    def test_too_many_points(self):
        # Each action of five levels may be any one, so the last action has more points than may be described.
        edges = [(state, action, state + 1) for state in range(5) for action in FIVE]
        full = behaviour_of(FIVE, *edges, (5, "c", 5))
        self.assertTrue(len(points_of(full, "c")) > 200)
        self.fails_with(TooMany, "limit", 200, least_net, full)
        self.same(count_unavoidable(full, longest=3), (1, 5, 25, 125))
        self.assertTrue(len(least_net(behaviour_of(FIVE, *edges)).places) > 0)

    def test_first_error_of_faces(self):
        found = []
        for first, second in (("a", "e"), ("e", "a")):
            # Many faces before the first action; behind b, c or d there are many more points before the second one.
            edges, last = two_halls(random.Random(1), 7, 16)
            more = [(last, first, 9001), (9000, second, 9001), *((last, action, 9000) for action in "bcd")]
            behaviour = behaviour_of(FIVE, *edges, *more)
            limits = {action: limit_of_faces(behaviour, action) for action in FIVE}
            self.same((limits[first], limits[second]), (400, 200))
            self.fails_with(TooMany, "limit", limits["a"], least_net, behaviour)
            found.append(limits["a"])
        self.same(found, [400, 200])

    def test_too_many_places(self):
        found = []
        for seed in (1, 5):
            edges, last = two_halls(random.Random(seed), 6, 8)
            behaviour = behaviour_of(FIVE, *edges, (last, "a", 9000))
            rays = tuple(rays_of(behaviour))
            places = set()
            for action in FIVE:
                points = tuple(points_of(behaviour, action))
                self.assertIsNone(limit_of_faces(behaviour, action))
                equations, inequalities = faces(points, rays)
                pairs = [*equations, *inequalities, *((tuple(-number for number in u), -v) for u, v in equations)]
                places |= {place_of_bound(behaviour, action, u, v) for u, v in pairs}
            kept = sorted(place for place in places if any(place[1]))
            found.append(len(kept))
            if len(kept) > 200:
                self.fails_with(TooMany, "limit", 200, least_net, behaviour)
            else:
                self.same(least_net(behaviour).places, tuple(kept))
        self.same(found, [194, 203])


class Words(Case):
    def test_generator(self):
        for call in (lambda value: next(unavoidable_words(TURN, longest=value)), lambda value: count_unavoidable(TURN, longest=value)):
            for value in [*kinds(), 8, 9]:
                if is_int(value) and 0 <= value <= 8:
                    call(value)
                else:
                    self.fails_with(InvalidNumber, "value", value, call, value)
        self.fails_with(TooMany, "limit", 5000, next, unavoidable_words(MANY, longest=0))
        self.fails_with(TooMany, "limit", 5000, count_unavoidable, MANY, longest=0)
        self.fails(InvalidNumber, next, unavoidable_words(MANY, longest=9))
        self.fails(InvalidNumber, count_unavoidable, MANY, longest=True)
        found = unavoidable_words(None, longest=None)
        self.fails(InvalidBehaviour, next, found)
        for call in (unavoidable_words, count_unavoidable):
            with self.assertRaises(TypeError):
                call(TURN, 3)
            with self.assertRaises(TypeError):
                call(TURN)

    def test_two_at_once(self):
        wanted = list(unavoidable_words(TWO, longest=3))
        one, other = unavoidable_words(TWO, longest=3), unavoidable_words(TWO, longest=3)
        self.same([word for pair in zip(one, other) for word in pair], [word for word in wanted for _ in range(2)])

    def test_lengths(self):
        self.same(list(unavoidable_words(TURN, longest=0)), [()])
        self.same(count_unavoidable(TURN, longest=0), (1,))
        self.same(list(unavoidable_words(TURN, longest=8))[-1], ("p", "c") * 4)
        self.same(count_unavoidable(FREE, longest=8), tuple(5 ** many for many in range(9)))

    def test_words_with_equal_counts(self):
        start = time.process_time()
        self.same(count_unavoidable(FREE, longest=8), tuple(5 ** many for many in range(9)))
        self.assertEqual(sum(1 for _ in unavoidable_words(FREE, longest=8)), sum(5 ** many for many in range(9)))
        chance = random.Random(139)
        for _ in range(3):
            edges = [(state, chance.choice(FIVE), state + 1) for state in range(11)]
            edges += [(chance.randrange(12), chance.choice(FIVE), chance.randrange(12)) for _ in range(10)]
            many = count_unavoidable(behaviour_of(FIVE, *edges), longest=8)
            self.assertEqual(len(many), 9)
        self.assertTrue(time.process_time() - start < 20)


class Nets(Case):
    def test_first_place_that_does_not(self):
        chance = random.Random(140)
        found = {"respects": 0, "place": 0}
        for behaviour in behaviours(141, 200):
            wide = len(behaviour[0])
            places = [
                (chance.randint(0, 4), *(tuple(chance.choice((0, 0, 1, 1, 2)) for _ in range(wide)) for _ in range(2)))
                for _ in range(chance.randint(0, 3))
            ]
            net = Net(behaviour[0], *places)
            paper = net_paper(behaviour, net)
            found[paper[0]] += 1
            wrong = [place for place in net.places if not respects(behaviour, place)]
            self.assertIs(net_respects(behaviour, net), not wrong)
            if wrong:
                self.same(paper[:2], ("place", wrong[0]))
                self.assertIs(is_respect_paper(behaviour, wrong[0], paper[2]), True)
                self.assertIn(paper[2][0], ("breaks", "falls"))
            else:
                self.same((paper[0], len(paper[1])), ("respects", len(net)))
                for place, one in zip(net.places, paper[1]):
                    self.assertIs(is_respect_paper(behaviour, place, one), True)
                    self.same(one[0], "respects")
        self.assertTrue(min(found.values()) > 20, found)

    def test_without_places(self):
        self.same(net_paper(TURN, Net(CP)), ("respects", ()))
        self.same(net_respects(TURN, Net(CP)), True)

    def test_wrong_nets(self):
        for call in (net_respects, net_paper):
            for value in kinds():
                if not (isinstance(value, Net) and value.alphabet == CP):
                    self.fails(InvalidNet, call, TURN, value)
                if not (isinstance(value, Net) and value.alphabet == ("a",)):
                    self.fails(InvalidNet, call, NOTHING, value)
            self.fails(InvalidNet, call, TURN, least_net(TWO))
            self.fails(InvalidBehaviour, call, None, None)


class NotTrue(Case):
    """What [0.17] says must not be relied upon."""

    def test_more_than_the_seen_runs(self):
        # Half of both ways is enough for x, so x is unavoidable where a and b have been done once each.
        behaviour = log_of(ABX, ("a", "a", "x"), ("b", "b", "x"), ("a", "b"))
        net = least_net(behaviour)
        self.assertIs(reference.states(behaviour, ("a", "b", "x")) == set(), True)
        self.assertIs(("a", "b", "x") in net, True)
        self.assertIs(is_unavoidable(behaviour, ("a", "b", "x")), True)

    def test_infinitely_many_markings(self):
        behaviour = behaviour_of(AB, (0, "a", 0), (0, "b", 1))
        net = least_net(behaviour)
        self.assertEqual(net.graph()[1], 2)
        behaviour = behaviour_of(AB, (0, "a", 0), (0, "a", 1), (1, "b", 2))
        net = least_net(behaviour)
        self.assertIs(("a",) * 50 + ("b",) in net, True)
        self.fails_with(TooMany, "limit", 150, least_net(behaviour_of(AB, (0, "a", 0), (0, "a", 1), (1, "b", 0))).graph)

    def test_the_net_of_both_has_not_all_places_of_both(self):
        one, other = log_of(ABX, ("a", "a", "x")), log_of(ABX, ("b", "b", "x"))
        both = least_net(one) & least_net(other)
        self.assertNotEqual(least_net(united(one, other)), both)
        self.assertIs(net_respects(TWO, both), False)


if __name__ == "__main__":
    unittest.main()
