"""Tests of leastnet.compare.covers: [0.16], [0.17], [12.1], [12.2]."""

import random
import time
import unittest

from leastnet.compare.covers import cover_paper, covers, have_same_rules, is_cover_paper
from leastnet.errors import InvalidBehaviour, InvalidOperation, TooMany
from leastnet.seen.behaviours import behaviour_of, log_of, settled, united
from leastnet.seen.circles import points_of, rays_of
from leastnet.steps.least import least_net, net_respects
from leastnet.steps.steps import is_unavoidable
from helpers import FORTY, Case, kinds, same
from reference import AB, ABX, CP, FIVE, NO_BEHAVIOURS, NOTHING, TURN, TWO, behaviours, chance_behaviour, cone_solution, inside
from test_least import MANY
import papers
import reference

LOOP = (("a",), 1, ((0, "a", 0),))
SHORT = log_of(CP, ("p",))
RING = (CP, 4, ((0, "p", 1), (1, "c", 2), (2, "p", 3), (3, "c", 0)))


def chance_pairs(seed, many):
    """Return pairs of behaviours with one alphabet; the second one is often a part of the first one."""
    chance = random.Random(seed)
    found = []
    for first in behaviours(seed, many):
        alphabet, _, edges = first
        second = chance_behaviour(chance, alphabet, chance.randint(1, 4), chance.randint(0, 4))
        if chance.random() < 0.4:
            second = behaviour_of(alphabet, *[edge for edge in edges if chance.random() < 0.8])
        found.append((first, second))
    return found


def is_covered(first, second):
    """Tell by [12.1] whether the first behaviour covers the second one."""
    rays = tuple(reference.rays(first))
    for action in first[0]:
        points = tuple(reference.points_of(first, action))
        if not all(inside(points, rays, point) for point in reference.points_of(second, action)):
            return False
    return all(cone_solution(rays, ray) for ray in reference.rays(second))


class Covers(Case):
    def test_examples(self):
        place = (0, (1, 0), (1, 0))
        self.same([covers(TURN, SHORT), covers(SHORT, TURN), is_cover_paper(SHORT, TURN, ("step", ("p",), "c", place))], [True, False, True])

    def test_exactly_one_kind(self):
        found = {"covers": 0, "step": 0}
        for first, second in chance_pairs(221, 300):
            paper = cover_paper(first, second)
            found[paper[0]] += 1
            wanted = is_covered(first, second)
            self.assertEqual(paper[0] == "covers", wanted, (first, second))
            self.assertIs(covers(first, second), wanted)
            self.assertTrue(papers.is_cover_paper(first, second, paper), (first, second, paper))
            self.assertIs(is_cover_paper(first, second, paper), True)
        self.assertTrue(min(found.values()) > 60, found)

    def test_all_runs_are_unavoidable(self):
        found = {True: 0, False: 0}
        for first, second in chance_pairs(222, 150):
            runs = reference.runs(second, 5)
            seen = all(is_unavoidable(first, run) for run in runs)
            if covers(first, second):
                self.assertTrue(seen)
            else:
                _, run, action, _ = cover_paper(first, second)
                longer = (*run, action)
                self.assertIn(action, reference.followers(second, run))
                self.assertTrue(len(longer) > 200 or not is_unavoidable(first, longer))
                self.assertIs(net_respects(second, least_net(first)), False)
            found[covers(first, second)] += 1
            self.assertIs(net_respects(second, least_net(first)), covers(first, second))
        self.assertTrue(min(found.values()) > 30, found)

    def test_reflexive_and_transitive(self):
        chance = random.Random(223)
        for first, second in chance_pairs(224, 150):
            self.assertIs(covers(first, first), True)
            self.assertIs(have_same_rules(first, settled(first)), True)
            third = behaviour_of(first[0], *[edge for edge in second[2] if chance.random() < 0.8])
            if covers(first, second) and covers(second, third):
                self.assertIs(covers(first, third), True)
            self.assertIs(covers(united(first, second), second), True)

    def test_same_rules(self):
        found = {True: 0, False: 0}
        for first, second in [*chance_pairs(225, 200), (TURN, RING), (TURN, SHORT), (SHORT, TURN), (TWO, TWO)]:
            wanted = covers(first, second) and covers(second, first)
            self.assertIs(have_same_rules(first, second), wanted)
            self.assertIs(have_same_rules(second, first), wanted)
            self.assertIs(least_net(first) == least_net(second), wanted)
            found[wanted] += 1
        self.assertTrue(min(found.values()) > 20, found)
        # A word that could not be avoided may be seen as well: nothing is told by it.
        more = united(TWO, log_of(ABX, ("a", "a", "x")))
        self.assertIs(have_same_rules(TWO, more), True)
        ways = log_of(ABX, ("a", "a", "x"), ("b", "b", "x"), ("a", "b"))
        self.assertIs(have_same_rules(ways, united(ways, log_of(ABX, ("a", "b", "x")))), True)

    def test_keys(self):
        for first, second in chance_pairs(226, 150):
            paper = cover_paper(first, second)
            if paper[0] == "covers":
                steps = sorted((point, action) for action in first[0] for point in points_of(second, action))
                self.same(list(paper[1]), steps)
                self.same(list(paper[2]), list(rays_of(second)))
                turned = ("covers", dict(list(paper[1].items())[::-1]), dict(list(paper[2].items())[::-1]))
                self.assertIs(is_cover_paper(first, second, turned), True)

    def test_rays_that_lead_far(self):
        # The ray (1, 0) is no multiple of (n, 1), but it stays inside for a long way.
        for many in (1, 5, 30):
            edges = [(state, "a", state + 1) for state in range(many)] + [(many, "b", 0)]
            first = behaviour_of(AB, *edges, *[(0, "a", 200)], *[(state, "a", state + 1) for state in range(200, 230)])
            paper = cover_paper(first, LOOPS)
            self.same(paper[0], "step")
            self.assertIs(is_cover_paper(first, LOOPS, paper), True)
            self.assertIs(covers(first, LOOPS), False)
            self.assertTrue(papers.is_cover_paper(first, LOOPS, paper))
            # One run less is covered: no action of it is avoidable earlier than it must be.
            word = paper[1]
            self.assertIs(is_unavoidable(first, word[:200]), len(word) <= 200)

    def test_rays_before_anything(self):
        self.assertIs(covers(log_of(("a",), ("a", "a")), LOOP), False)
        paper = cover_paper(log_of(("a",), ("a", "a")), LOOP)
        self.same(paper, ("step", ("a", "a"), "a", (2, (1,), (0,))))
        self.assertIs(covers(LOOP, log_of(("a",), ("a", "a"))), True)
        self.same(cover_paper(LOOP, NOTHING), ("covers", {}, {}))
        self.same(cover_paper(NOTHING, NOTHING), ("covers", {}, {}))
        self.same(covers(NOTHING, LOOP), False)


LOOPS = (AB, 1, ((0, "a", 0),))


class Papers(Case):
    def test_near_papers(self):
        chance = random.Random(227)
        seen = {True: 0, False: 0}
        for first, second in chance_pairs(228, 250):
            paper = cover_paper(first, second)
            for _ in range(8):
                value = papers.near(chance, paper)
                wanted = papers.is_cover_paper(first, second, value)
                seen[wanted] += 1
                self.assertIs(is_cover_paper(first, second, value), wanted, (first, second, value))
        self.assertTrue(min(seen.values()) > 100, seen)

    def test_keys_in_their_kinds(self):
        _, steps, circles = cover_paper(TURN, TURN)
        self.assertIs(is_cover_paper(TURN, TURN, ("covers", steps, circles)), True)
        zero, one = ((0, 0), "p"), ((0, 1), "c")
        for wrong in ({**{key: steps[key] for key in steps if key != zero}, ((False, 0), "p"): steps[zero]},
                      {**{key: steps[key] for key in steps if key != one}, ((0, True), "c"): steps[one]},
                      {zero: steps[zero]}, {**steps, ((1, 1), "p"): steps[zero]}, {}, {zero: steps[zero], one: None},
                      {zero: steps[zero], one: steps[zero]}, {zero: steps[zero], ("c", (0, 1)): steps[one]}):
            self.assertIs(is_cover_paper(TURN, TURN, ("covers", wrong, circles)), False, wrong)
        ray = circles[1, 1]
        for wrong in ({}, {(1, 1): ()}, {(True, 1): ray}, {(1, 1): ray, (2, 2): ray + ray}, {(1, 1): ray + ray}, {(1, 1): list(ray)}, {(1, 1): None}):
            self.assertIs(is_cover_paper(TURN, TURN, ("covers", steps, wrong)), False, wrong)
        half = (((1, 2), ("p",), ("c", "p")), ((1, 4), (), ("p", "c", "p", "c")))
        self.assertIs(is_cover_paper(TURN, TURN, ("covers", steps, {(1, 1): half})), True)
        self.assertIs(is_cover_paper(TURN, TURN, ("covers", steps, {(1, 1): half[::-1]})), True)

    def test_forms(self):
        right = ("step", ("p",), "c", (0, (1, 0), (1, 0)))
        for wrong in (list(right), right[:3], (*right, ()), ("steps", *right[1:]), ("step", ["p"], *right[2:]), ("step", ("p",), "p", right[3]),
                      ("step", ("p",), "x", right[3]), ("step", ("c",), "c", right[3]), ("step", (), "c", right[3]), ("step", ("p",), None, right[3]),
                      ("step", ("p",), ["c"], right[3]), (*right[:3], (0, (1, 1), (1, 0))), (*right[:3], (1, (1, 0), (0, 1))),
                      (*right[:3], (0, (0, 0), (0, 0))), (*right[:3], (0, (1,), (1,))), (*right[:3], None)):
            self.assertIs(is_cover_paper(SHORT, TURN, wrong), False, wrong)
        self.assertIs(is_cover_paper(SHORT, TURN, ("step", ("p", "c", "p"), "c", (0, (1, 0), (1, 0)))), True)
        long = ("p", "c") * 300 + ("p",)
        self.assertIs(is_cover_paper(SHORT, TURN, ("step", long, "c", (0, (1, 0), (1, 0)))), True)

    def test_any_value(self):
        self.answers(lambda value: is_cover_paper(NOTHING, NOTHING, value), lambda value: same(value, ("covers", {}, {})))
        self.answers(lambda value: is_cover_paper(LOOP, LOOP, value), lambda value: False)
        self.answers(lambda value: is_cover_paper(NOTHING, LOOP, value), lambda value: same(value, ("step", (), "a", (0, (1,), (1,)))))
        right = {((0,), "a"): ((((1, 1), ()),), ())}
        self.assertIs(is_cover_paper(LOOP, LOOP, ("covers", right, {(1,): (((1, 1), (), ("a",)),)})), True)
        self.answers(lambda value: is_cover_paper(LOOP, LOOP, ("covers", {((0,), "a"): value}, {(1,): (((1, 1), (), ("a",)),)})),
                     lambda value: same(value, ((((1, 1), ()),), ())))
        self.answers(lambda value: is_cover_paper(LOOP, LOOP, ("covers", right, {(1,): value})), lambda value: False)
        self.answers(lambda value: is_cover_paper(LOOP, LOOP, ("covers", right, value)), lambda value: False)
        for key in kinds():
            if papers.hashed(key) is key:
                self.assertIs(is_cover_paper(LOOP, LOOP, ("covers", {key: right[(0,), "a"]}, {(1,): (((1, 1), (), ("a",)),)})), False)
                self.assertIs(is_cover_paper(LOOP, LOOP, ("covers", right, {key: (((1, 1), (), ("a",)),)})), key == (1,) and key[0] is not True)

    def test_large_numbers(self):
        first = log_of(("a",), ("a",))
        paper = ("step", ("a",), "a", (FORTY, (FORTY,), (0,)))
        self.assertIs(is_cover_paper(first, LOOP, paper), True)


class Errors(Case):
    def test_behaviours(self):
        for call in (covers, cover_paper, have_same_rules, lambda *both: is_cover_paper(*both, None)):
            for value in NO_BEHAVIOURS:
                self.fails(InvalidBehaviour, call, value, None)
                self.fails(InvalidBehaviour, call, TURN, value)
            for value in kinds():
                if not isinstance(value, tuple) or len(value) != 3 or not isinstance(value[1], int) or value[1] < 1:
                    self.fails(InvalidBehaviour, call, NOTHING, value)
            self.fails(InvalidOperation, call, TURN, TWO)
            self.fails(InvalidOperation, call, MANY, TWO)
            self.fails(InvalidBehaviour, call, MANY, (CP, 2, ()))
            self.ordered(call, {"first": TURN, "second": SHORT}, [("first", None, InvalidBehaviour, None), ("second", None, InvalidBehaviour, None)])

    def test_too_many(self):
        empty = (FIVE, 1, ())
        for call in (covers, cover_paper, have_same_rules):
            for first, second in ((MANY, empty), (empty, MANY), (MANY, MANY)):
                self.fails_with(TooMany, "limit", 5000, call, first, second)
        self.assertIs(is_cover_paper(MANY, empty, ("covers", {}, {})), True)
        for value in (("covers", {}, {}), ("covers", {1: 2}, {None: ()})):
            self.fails_with(TooMany, "limit", 5000, is_cover_paper, empty, MANY, value)
        for value in (("covers", {}), ("covers", {}, {}, {}), ("covers", {}, ()), ("covers", (), {}), ["covers", {}, {}], ("step", {}, {}),
                      ("cover", {}, {}), None, ("step", (), "a", (0, (1, 0, 0, 0, 0), (1, 0, 0, 0, 0)))):
            self.assertIs(is_cover_paper(empty, MANY, value), value is not None and len(value) == 4 and value[0] == "step", value)

    def test_they_change_nothing(self):
        self.leaves(cover_paper, TURN, RING)
        self.leaves(is_cover_paper, TURN, TURN, cover_paper(TURN, TURN))

    def test_many_small_calls(self):
        start = time.process_time()
        for _ in range(1500):
            covers(TURN, SHORT)
            have_same_rules(TURN, RING)
            is_cover_paper(TURN, RING, cover_paper(TURN, RING))
        self.assertTrue(time.process_time() - start < 10)


class NotTrue(Case):
    """What [0.17] says must not be relied upon."""

    def test_avoidable_for_both_together(self):
        one, other = log_of(ABX, ("a", "a", "x"), ("a", "b")), log_of(ABX, ("b", "b", "x"), ("a", "b"))
        word = ("a", "b", "x")
        self.assertIs(is_unavoidable(one, word), False)
        self.assertIs(is_unavoidable(other, word), False)
        self.assertIs(is_unavoidable(united(one, other), word), True)
        self.assertIs(covers(united(one, other), log_of(ABX, word)), True)


if __name__ == "__main__":
    unittest.main()
