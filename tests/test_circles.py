"""Tests of leastnet.seen.circles: [6.1], [6.2] and is_circle."""

import time
import unittest

from leastnet.errors import InvalidBehaviour, InvalidWord, TooMany, UnknownName
from leastnet.seen import circles as module
from leastnet.seen.behaviours import behaviour_of
from leastnet.seen.circles import all_points, is_circle, points_of, rays_of
from helpers import Case, kinds, same
from reference import AB, ABX, FIVE, NO_BEHAVIOURS, NOTHING, TURN, TWO, behaviours, words
import reference

CDE = ("a", "b", "c")
DOUBLE = tuple((state, action, state + 1) for state in range(11) for action in AB)  # 2 ** k ways to state k


def in_order(found):
    """Return the dict as a list of pairs: it has an order."""
    return list(found.items())


class Points(Case):
    def test_examples(self):
        self.same(points_of(TWO, "x"), {(0, 2, 0): ("b", "b"), (2, 0, 0): ("a", "a")})
        self.same(points_of(TURN, "c"), {(0, 1): ("p",)})
        self.same(rays_of(TURN), {(1, 1): ((), ("p", "c"))})
        self.same(all_points(TURN), {(0, 0): (), (0, 1): ("p",)})

    def test_plain_search(self):
        for behaviour in behaviours(63, 200) + behaviours(64, 10, size=6, more=10):
            for action in behaviour[0]:
                self.assertEqual(in_order(points_of(behaviour, action)), in_order(reference.points_of(behaviour, action)))
            self.assertEqual(in_order(all_points(behaviour)), in_order(reference.points(behaviour, lambda state: True)))
            self.assertEqual(in_order(rays_of(behaviour)), in_order(reference.rays(behaviour)))

    def test_kinds_of_results(self):
        for behaviour in behaviours(65, 20):
            for found in (points_of(behaviour, behaviour[0][0]), all_points(behaviour), rays_of(behaviour)):
                self.assertIs(found.__class__, dict)
                self.assertEqual(list(found), sorted(found))
                self.same(found, {**found})

    def test_without_edges(self):
        self.same(points_of(NOTHING, "a"), {})
        self.same(all_points(NOTHING), {(0,): ()})
        self.same(rays_of(NOTHING), {})

    def test_actions_never_seen(self):
        self.same(points_of((AB, 1, ((0, "a", 0),)), "b"), {})
        self.same(rays_of((AB, 1, ((0, "a", 0),))), {(1, 0): ((), ("a",))})

    def test_first_word(self):
        # b a comes to the same counts as a b, along other states.
        both = behaviour_of(ABX, (0, "b", 1), (1, "a", 3), (0, "a", 2), (2, "b", 4), (3, "x", 3), (4, "x", 4))
        self.same(points_of(both, "x"), {(1, 1, 0): ("a", "b")})
        only = behaviour_of(ABX, (0, "b", 1), (1, "a", 3), (0, "a", 2), (2, "b", 4), (3, "x", 3))
        self.same(points_of(only, "x"), {(1, 1, 0): ("b", "a")})

    def test_first_pair(self):
        # The circle of b is met behind a, and behind a a; the shorter joined word counts.
        behaviour = behaviour_of(AB, (0, "b", 1), (1, "b", 2), (2, "a", 2), (0, "b", 3), (3, "a", 3))
        self.same(rays_of(behaviour), {(1, 0): (("b",), ("a",))})
        # Of two joined words of one length the first one, whatever the run alone would be.
        behaviour = behaviour_of(CDE, (0, "b", 1), (0, "a", 2), (1, "a", 3), (3, "b", 1), (2, "b", 4), (4, "a", 2))
        self.same(rays_of(behaviour)[(1, 1, 0)], (("a",), ("b", "a")))
        behaviour = behaviour_of(AB, (0, "a", 1), (1, "b", 2), (2, "a", 1), (0, "a", 3), (3, "a", 4), (4, "b", 3))
        self.same(rays_of(behaviour), {(1, 1): (("a",), ("a", "b"))})
        # A circle may begin at any of its states.
        behaviour = behaviour_of(AB, (0, "a", 1), (1, "b", 2), (2, "a", 0))
        self.same(rays_of(behaviour), {(2, 1): ((), ("a", "b", "a"))})

    def test_several_edges_between_two_states(self):
        behaviour = behaviour_of(AB, (0, "a", 1), (0, "b", 1), (1, "a", 0), (1, "b", 0))
        self.same(rays_of(behaviour), {(0, 2): ((), ("b", "b")), (1, 1): ((), ("a", "b")), (2, 0): ((), ("a", "a"))})
        self.same(all_points(behaviour), {(0, 0): (), (0, 1): ("b",), (1, 0): ("a",)})

    def test_limit_of_paths(self):
        leaves = [(level, "c", 20 + level) for level in (9, 8, 7, 3, 0)]
        full = behaviour_of(CDE, *DOUBLE, *leaves)
        self.assertEqual(len(reference.paths(full)), 5000)
        self.assertEqual(module.MAX_PATHS, 5000)
        self.same(points_of(full, "c")[(9, 0, 0)], ("a",) * 9)
        self.assertEqual(len(all_points(full)), sum(range(1, 13)) + 10 + 9 + 8 + 4 + 1)
        self.same(rays_of(full), {})
        over = behaviour_of(CDE, *DOUBLE, *leaves, (0, "c", 40))
        for call in (all_points, rays_of, lambda behaviour: points_of(behaviour, "a")):
            self.fails_with(TooMany, "limit", 5000, call, over)

    def test_limit_of_circles(self):
        back = [(11, "a", 0), (11, "b", 0), *((level, "c", 0) for level in (9, 8, 7, 3))]
        full = behaviour_of(CDE, *DOUBLE, *back)
        self.assertEqual(len(rays_of(full)), 13 + 10 + 9 + 8 + 4)
        self.same(rays_of(full)[(12, 0, 0)], ((), ("a",) * 12))
        self.assertEqual(len(all_points(full)), sum(range(1, 13)))
        over = behaviour_of(CDE, *DOUBLE, *back, (5, "c", 5))
        self.assertTrue(len(reference.paths(over)) <= 5000)
        for call in (all_points, rays_of, lambda behaviour: points_of(behaviour, "a")):
            self.fails_with(TooMany, "limit", 5000, call, over)

    def test_each_circle_once(self):
        # All circles go through all states: each could begin at 12 of them.
        ring = behaviour_of(CDE, *DOUBLE, (11, "a", 0), (11, "c", 0))
        self.assertEqual(len(rays_of(ring)), 12 + 12)

    def test_very_many(self):
        start = time.process_time()
        everywhere = [(state, action, target) for state in range(12) for action in FIVE for target in range(12)]
        for edges in (everywhere, [(state, FIVE[target % 5], target) for state in range(27) for target in range(27)]):
            behaviour = behaviour_of(FIVE, *edges)
            for call in (all_points, rays_of, lambda value: points_of(value, "a")):
                self.fails_with(TooMany, "limit", 5000, call, behaviour)
        line = [(state, action, state + 1) for state in range(149) for action in FIVE]
        self.fails_with(TooMany, "limit", 5000, rays_of, behaviour_of(FIVE, *line))
        self.assertTrue(time.process_time() - start < 5)

    def test_long_paths(self):
        line = behaviour_of(AB, *[(state, "a", state + 1) for state in range(149)], (149, "b", 0), (149, "b", 70))
        self.same(points_of(line, "b"), {(149, 0): ("a",) * 149})
        self.same(rays_of(line), {(79, 1): (("a",) * 70, ("a",) * 79 + ("b",)), (149, 1): ((), ("a",) * 149 + ("b",))})

    def test_wrong_arguments(self):
        for call in (all_points, rays_of, lambda value: points_of(value, None)):
            for value in NO_BEHAVIOURS:
                self.fails(InvalidBehaviour, call, value)
        many = behaviour_of(FIVE, *[(state, action, state + 1) for state in range(20) for action in FIVE])
        for value in kinds():
            if value != "a":
                self.fails_with(UnknownName, "name", value, points_of, NOTHING, value)
            if value not in FIVE:
                self.fails_with(UnknownName, "name", value, points_of, many, value)
        self.fails(InvalidBehaviour, points_of, (AB, 2, ()), "c")
        self.leaves(points_of, TWO, "x")


class Circles(Case):
    def test_plain_search(self):
        for behaviour in behaviours(66, 60, size=4):
            alphabet = behaviour[0]
            for run in reference.runs(behaviour, 2):
                for word in words(alphabet, 3):
                    first = reference.states(behaviour, run)
                    wanted = bool(word) and any(state in reference.states(behaviour, word, (state,)) for state in first)
                    self.assertIs(is_circle(behaviour, run, word), wanted)

    def test_examples(self):
        self.assertIs(is_circle(TURN, (), ("p", "c")), True)
        self.assertIs(is_circle(TURN, (), ("c", "p")), False)
        self.assertIs(is_circle(TURN, ("p",), ("c", "p")), True)
        self.assertIs(is_circle(TURN, (), ()), False)
        self.assertIs(is_circle(TURN, (), ("p",)), False)

    def test_of_any_length(self):
        turn = ("p", "c") * 700
        self.assertIs(is_circle(TURN, turn, turn), True)
        self.assertIs(is_circle(TURN, turn, turn + ("p",)), False)
        self.assertIs(is_circle(TURN, turn + ("p",), turn), False)

    def test_several_states_behind_a_run(self):
        # a leads to two states, and only one of them has the circle b.
        behaviour = behaviour_of(AB, (0, "a", 1), (0, "a", 2), (1, "b", 2), (2, "b", 2))
        self.assertIs(is_circle(behaviour, ("a",), ("b",)), True)
        # Here b leads from one of them to the other one, but from none to itself.
        behaviour = behaviour_of(AB, (0, "a", 1), (0, "a", 2), (1, "b", 2), (2, "b", 3))
        self.assertIs(is_circle(behaviour, ("a",), ("b",)), False)

    def test_any_value(self):
        loop = (("a",), 1, ((0, "a", 0),))
        self.answers(lambda value: is_circle(loop, (), value), lambda value: value in (("a",), ("a", "a")))
        self.answers(lambda value: is_circle(NOTHING, (), value), lambda value: False)

    def test_wrong_arguments(self):
        for value in NO_BEHAVIOURS:
            self.fails(InvalidBehaviour, is_circle, value, None, None)
        self.refuses(InvalidWord, lambda value: is_circle(NOTHING, value, ("a",)), lambda value: same(value, ()))
        for run in (("c",), ("p", "p"), ("x",), ["p"], "p", None, ("p", "c") * 300 + ("c",)):
            self.fails(InvalidWord, is_circle, TURN, run, None)


if __name__ == "__main__":
    unittest.main()
