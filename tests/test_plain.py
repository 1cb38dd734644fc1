"""Tests of leastnet.steps.plain: [0.13], [0.16], [0.17], [11.1], [11.2]."""

import random
import time
import unittest

from leastnet.errors import InvalidBehaviour, InvalidNumber, InvalidVector, InvalidWord, TooMany, UnknownName
from leastnet.hulls.faces import faces
from leastnet.nets.nets import Net
from leastnet.nets.places import is_plain
from leastnet.seen.behaviours import behaviour_of, log_of
from leastnet.seen.circles import all_points, rays_of
from leastnet.seen.respect import respects
from leastnet.steps.plain import first_plain_difference, is_plain_paper, is_plainly_unavoidable, plain_net, plain_paper
from leastnet.steps.steps import is_unavoidable, step_paper
from helpers import FORTY, Case, kinds, same
from reference import AB, ABX, CP, FIVE, NO_BEHAVIOURS, NOTHING, TURN, TWO, allows, allows_word, behaviours, counts, inside, is_int
from reference import words
from test_least import MANY, two_halls
from test_steps import chance_steps
import papers
import reference

LOOP = (("a",), 1, ((0, "a", 0),))
MIXED = ("mixtures", ((((1, 1), ("a",)),), ()), ((((1, 2), ("a", "a")), ((1, 2), ("b", "b"))), ()))


def is_inside(behaviour, x):
    """Tell whether x is inside all points and rays."""
    return inside(tuple(reference.points(behaviour, lambda state: True)), tuple(reference.rays(behaviour)), x)


def more(x, at):
    """Return the counts with one more of an action."""
    return (*x[:at], x[at] + 1, *x[at + 1:])


def plain_places(behaviour):
    """Return the places of the plain net, as [11.2] names them."""
    points = tuple(reference.points(behaviour, lambda state: True))
    equations, inequalities = reference.faces(points, tuple(reference.rays(behaviour)))
    pairs = [*equations, *inequalities, *((tuple(-number for number in u), -v) for u, v in equations)]
    found = {(v, tuple(max(0, one) for one in u), tuple(max(0, -one) for one in u)) for u, v in pairs}
    return tuple(sorted(place for place in found if any(place[1])))


class Papers(Case):
    def test_examples(self):
        self.same(plain_paper(TWO, (1, 0, 0), "b")[0], "mixtures")
        self.same(is_plain_paper(TWO, (1, 0, 0), "b", MIXED), True)
        self.same(is_plainly_unavoidable(TWO, ("a", "b")), True)
        self.same(is_unavoidable(TWO, ("a", "b")), False)
        self.same(is_plain_paper(TURN, (0, 0), "c", ("place", (0, (1, 0), (0, 1)))), True)

    def test_exactly_one_kind(self):
        found = {"place": 0, "mixtures": 0}
        for behaviour, x, action in chance_steps(201, 400):
            paper = plain_paper(behaviour, x, action)
            found[paper[0]] += 1
            at = behaviour[0].index(action)
            wanted = is_inside(behaviour, x) and is_inside(behaviour, more(x, at))
            self.assertEqual(paper[0] == "mixtures", wanted, (behaviour, x, action))
            self.assertTrue(papers.is_plain_paper(behaviour, x, action, paper), (behaviour, x, action, paper))
            self.assertIs(is_plain_paper(behaviour, x, action, paper), True)
            if not wanted:
                self.assertIs(is_plain(paper[1]), True)
                self.assertIs(respects(behaviour, paper[1]), True)
                self.assertFalse(allows(paper[1], x, at))
        self.assertTrue(min(found.values()) > 50, found)

    def test_x_is_outside_but_one_more_is_inside(self):
        # A run of one action and one of two others: the middle is inside, one less is not.
        behaviour = log_of(AB, ("a", "a"), ("b", "b"))
        for x, action in (((0, 1), "a"), ((1, 1), "a"), ((2, 0), "b"), ((0, 0), "a")):
            paper = plain_paper(behaviour, x, action)
            self.assertTrue(papers.is_plain_paper(behaviour, x, action, paper))
        behaviour = log_of(AB, ("a", "b"))
        self.same(plain_paper(behaviour, (0, 1), "a")[0], "place")
        self.assertIs(is_inside(behaviour, (1, 1)), True)
        self.assertIs(is_inside(behaviour, (0, 1)), False)

    def test_a_plain_place_respects_if_it_never_falls_below_0(self):
        chance = random.Random(202)
        for behaviour in behaviours(203, 200):
            u = [chance.randint(-2, 2) for _ in behaviour[0]]
            place = (chance.randint(0, 4), tuple(max(0, one) for one in u), tuple(max(0, -one) for one in u))
            low = [place[0] - reference.product(u, counts(behaviour[0], run)) for run in reference.runs(behaviour, 7)]
            if min(low) < 0:
                self.assertIs(respects(behaviour, place), False)
            if respects(behaviour, place):
                self.assertTrue(min(low) >= 0)

    def test_near_papers(self):
        chance = random.Random(204)
        seen = {True: 0, False: 0}
        for behaviour, x, action in chance_steps(205, 300):
            paper = plain_paper(behaviour, x, action)
            for _ in range(8):
                value = papers.near(chance, paper)
                wanted = papers.is_plain_paper(behaviour, x, action, value)
                seen[wanted] += 1
                self.assertIs(is_plain_paper(behaviour, x, action, value), wanted, (behaviour, x, action, value))
        self.assertTrue(min(seen.values()) > 100, seen)

    def test_what_is_wrong(self):
        _, before, behind = MIXED
        for value in (("mixtures", behind, before), ("mixtures", before), ("mixtures", (before, behind)), ("mixture", before, behind),
                      ["mixtures", before, behind], ("mixtures", before, behind, ()), ("mixtures", before, before)):
            self.assertIs(is_plain_paper(TWO, (1, 0, 0), "b", value), False, value)
        # A place that takes and gives back is none of the plain ones.
        kind, place = step_paper(TWO, (1, 0, 0), "b")
        self.same((kind, is_plain(place)), ("place", False))
        self.assertIs(is_plain_paper(TWO, (1, 0, 0), "b", ("place", place)), False)
        # Nor does a plain one help that does not respect the behaviour, or allows the step.
        self.assertIs(is_plain_paper(TURN, (0, 0), "c", ("place", (0, (1, 1), (0, 0)))), False)
        self.assertIs(is_plain_paper(TURN, (0, 1), "c", ("place", (0, (1, 0), (0, 1)))), False)
        # The runs need not be followed by anything.
        self.assertIs(is_plain_paper(TWO, (2, 0, 0), "x", ("mixtures", ((((1, 1), ("a", "a")),), ()), ((((1, 1), ("a", "a", "x")),), ()))), True)

    def test_any_value(self):
        self.answers(lambda value: is_plain_paper(NOTHING, (0,), "a", value), lambda value: same(value, ("place", (0, (1,), (0,)))))
        self.answers(lambda value: is_plain_paper(LOOP, (0,), "a", value), lambda value: False)
        right = ((((1, 1), ()),), (((1, 1), (), ("a",)),))
        self.assertIs(is_plain_paper(LOOP, (0,), "a", ("mixtures", right[:1] + ((),), right)), True)
        self.answers(lambda value: is_plain_paper(LOOP, (0,), "a", ("mixtures", value, right)), lambda value: same(value, ((((1, 1), ()),), ())))
        self.answers(lambda value: is_plain_paper(LOOP, (0,), "a", ("mixtures", right[:1] + ((),), value)), lambda value: False)
        self.answers(lambda value: is_plain_paper(NOTHING, (0,), "a", ("place", value)), lambda value: same(value, (0, (1,), (0,))))

    def test_large_numbers(self):
        for x, action, kind in (((FORTY, FORTY), "p", "mixtures"), ((FORTY - 1, FORTY), "p", "place"), ((FORTY, FORTY), "c", "place")):
            paper = plain_paper(TURN, x, action)
            self.same(paper[0], kind)
            self.assertIs(is_plain_paper(TURN, x, action, paper), True)

    def test_errors(self):
        for call in (plain_paper, lambda *args: is_plain_paper(*args, None)):
            for value in NO_BEHAVIOURS:
                self.fails(InvalidBehaviour, call, value, None, None)
            for value in kinds():
                if not (isinstance(value, tuple) and len(value) == 1 and is_int(value[0]) and value[0] >= 0):
                    self.fails(InvalidVector, call, NOTHING, value, None)
                if value != "a":
                    self.fails_with(UnknownName, "name", value, call, NOTHING, (0,), value)
            wrong = [("behaviour", (AB, 2, ()), InvalidBehaviour, None), ("counts", (-1, 0, 0), InvalidVector, None),
                     ("action", "c", UnknownName, "name")]
            self.ordered(call, {"behaviour": TWO, "counts": (1, 1, 0), "action": "x"}, wrong)
        self.fails_with(TooMany, "limit", 5000, plain_paper, MANY, (0,) * 5, "a")
        self.fails(UnknownName, plain_paper, MANY, (0,) * 5, "x")
        self.assertIs(is_plain_paper(MANY, (0,) * 5, "a", ("mixtures", ((((1, 1), ()),), ()), ((((1, 1), ("a",)),), ()))), True)
        self.leaves(plain_paper, TWO, (1, 1, 0), "x")


class Words(Case):
    def test_words(self):
        for behaviour in behaviours(206, 60):
            for word in words(behaviour[0], 3):
                steps = [(counts(behaviour[0], word[:at]), behaviour[0].index(action)) for at, action in enumerate(word)]
                wanted = all(is_inside(behaviour, x) and is_inside(behaviour, more(x, at)) for x, at in steps)
                self.assertIs(is_plainly_unavoidable(behaviour, word), wanted)
                if is_unavoidable(behaviour, word):
                    self.assertIs(wanted, True)

    def test_edges(self):
        self.assertIs(is_plainly_unavoidable(NOTHING, ()), True)
        self.assertIs(is_plainly_unavoidable(NOTHING, ("a",)), False)
        self.assertIs(is_plainly_unavoidable(LOOP, ("a",) * 200), True)
        self.fails(InvalidWord, is_plainly_unavoidable, LOOP, ("a",) * 201)

    def test_errors(self):
        for value in NO_BEHAVIOURS:
            self.fails(InvalidBehaviour, is_plainly_unavoidable, value, None)
        self.refuses(InvalidWord, lambda value: is_plainly_unavoidable(LOOP, value), lambda value: papers.is_word(("a",), value))
        self.ordered(is_plainly_unavoidable, {"behaviour": TWO, "word": ("a",)},
                     [("behaviour", (AB, 2, ()), InvalidBehaviour, None), ("word", ("c",), InvalidWord, None)])
        self.fails_with(TooMany, "limit", 5000, is_plainly_unavoidable, MANY, ())
        self.fails(InvalidWord, is_plainly_unavoidable, MANY, ("x",))


class Nets(Case):
    def test_example(self):
        self.same([plain_net(TURN).places, first_plain_difference(TWO, longest=3)], [((0, (1, 0), (0, 1)), (1, (0, 1), (1, 0))), ("a", "b")])

    def test_places_of_all_faces(self):
        for behaviour in behaviours(207, 150):
            net = plain_net(behaviour)
            self.assertIsInstance(net, Net)
            self.same(net.alphabet, behaviour[0])
            self.same(net.places, plain_places(behaviour))
            for place in net.places:
                self.assertIs(is_plain(place), True)
                self.assertIs(respects(behaviour, place), True)
                self.assertTrue(max(place[1]) > 0)

    def test_runs(self):
        for behaviour in behaviours(208, 80):
            longest = 4 if len(behaviour[0]) < 3 else 3
            wanted = [word for word in words(behaviour[0], longest) if is_plainly_unavoidable(behaviour, word)]
            self.same(list(plain_net(behaviour).runs(longest=longest)), wanted)

    def test_no_plain_place_is_stricter(self):
        chance = random.Random(209)
        for behaviour in behaviours(210, 100):
            u = [chance.randint(-2, 2) for _ in behaviour[0]]
            place = (chance.randint(0, 3), tuple(max(0, one) for one in u), tuple(max(0, -one) for one in u))
            if respects(behaviour, place):
                for word in plain_net(behaviour).runs(longest=4):
                    self.assertTrue(allows_word(behaviour[0], place, word))

    def test_edges(self):
        self.same(plain_net(NOTHING).places, ((0, (1,), (0,)),))
        self.same(plain_net(LOOP).places, ())
        self.same(plain_net((AB, 1, ())).places, ((0, (0, 1), (0, 0)), (0, (1, 0), (0, 0))))

    def test_errors(self):
        for value in NO_BEHAVIOURS:
            self.fails(InvalidBehaviour, plain_net, value)
        self.fails_with(TooMany, "limit", 5000, plain_net, MANY)
        full = behaviour_of(FIVE, *[(state, action, state + 1) for state in range(5) for action in FIVE])
        self.assertTrue(len(all_points(full)) > 200)
        self.fails_with(TooMany, "limit", 200, plain_net, full)

    def test_many_faces(self):
        found = set()
        for seed, many, longest in ((1, 7, 16), (1, 6, 8), (5, 6, 8), (2, 6, 12), (3, 6, 10), (4, 7, 8)):
            edges, _ = two_halls(random.Random(seed), many, longest)
            behaviour = behaviour_of(FIVE, *edges)
            limit = None
            try:
                equations, inequalities = faces(tuple(all_points(behaviour)), tuple(rays_of(behaviour)))
                pairs = [*equations, *inequalities, *((tuple(-one for one in u), -v) for u, v in equations)]
                if len({(u, v) for u, v in pairs if max(u) > 0}) > 200:
                    limit = 200
            except TooMany as error:
                limit = error.limit
            found.add(limit)
            if limit is None:
                plain_net(behaviour)
            else:
                self.fails_with(TooMany, "limit", limit, plain_net, behaviour)
        self.assertTrue(found >= {200, None} or found >= {200, 400}, found)


class Differences(Case):
    def test_first_difference(self):
        found = 0
        for behaviour in behaviours(211, 150):
            longest = 4 if len(behaviour[0]) < 3 else 3
            wanted = [
                word for word in words(behaviour[0], longest)
                if is_plainly_unavoidable(behaviour, word) and not is_unavoidable(behaviour, word)
            ]
            self.same(first_plain_difference(behaviour, longest=longest), wanted[0] if wanted else None)
            found += bool(wanted)
            if wanted:
                self.same(first_plain_difference(behaviour, longest=len(wanted[0])), wanted[0])
                self.same(first_plain_difference(behaviour, longest=len(wanted[0]) - 1), None)
        self.assertTrue(20 < found < 140, found)

    def test_lengths(self):
        self.same(first_plain_difference(TWO, longest=0), None)
        self.same(first_plain_difference(TWO, longest=1), None)
        self.same(first_plain_difference(TWO, longest=8), ("a", "b"))
        self.same(first_plain_difference(NOTHING, longest=8), None)
        self.same(first_plain_difference(LOOP, longest=8), None)

    def test_quick(self):
        start = time.process_time()
        free = (FIVE, 1, tuple((0, action, 0) for action in FIVE))
        self.same(first_plain_difference(free, longest=8), None)
        chance = random.Random(212)
        for _ in range(3):
            edges = [(state, chance.choice(FIVE), state + 1) for state in range(11)]
            edges += [(chance.randrange(12), chance.choice(FIVE), chance.randrange(12)) for _ in range(8)]
            first_plain_difference(behaviour_of(FIVE, *edges), longest=8)
        self.assertTrue(time.process_time() - start < 10)

    def test_errors(self):
        for value in NO_BEHAVIOURS:
            self.fails(InvalidBehaviour, lambda value: first_plain_difference(value, longest=None), value)
        for value in [*kinds(), 8, 9]:
            if is_int(value) and 0 <= value <= 8:
                first_plain_difference(TWO, longest=value)
            else:
                self.fails_with(InvalidNumber, "value", value, first_plain_difference, TWO, longest=value)
        for longest in (0, 8):
            self.fails_with(TooMany, "limit", 5000, first_plain_difference, MANY, longest=longest)
        self.fails(InvalidNumber, first_plain_difference, MANY, longest=9)
        with self.assertRaises(TypeError):
            first_plain_difference(TWO, 3)


class NotTrue(Case):
    """What [0.17] says must not be relied upon."""

    def test_plain_places_are_not_as_strict(self):
        self.assertIs(is_plainly_unavoidable(TWO, ("a", "b")), True)
        self.assertIs(is_unavoidable(TWO, ("a", "b")), False)
        self.assertNotEqual(list(plain_net(TWO).runs(longest=3)), [word for word in words(ABX, 3) if is_unavoidable(TWO, word)])
        self.same(plain_net(TURN).alphabet, CP)


if __name__ == "__main__":
    unittest.main()
