"""Tests of the quick ways: they must answer as the slow ones do, and in little time."""

import itertools
import random
import time
import unittest
from unittest import mock

from leastnet.errors import TooMany
from leastnet.hulls import cones
from leastnet.hulls.faces import faces, few_faces
from leastnet.hulls.simplex import Hull, is_sum
from leastnet.seen.automata import moves_of, set_rows
from leastnet.seen.behaviours import behaviour_of, run_difference, settled, united
from leastnet.seen.circles import all_points, are_too_many, leaving_edges, rays_of, walked
from leastnet.steps.least import least_net, unavoidable_words
from helpers import Case
from reference import AB, FIVE, behaviours, chance_behaviour, circles_at, inside, paths
from test_faces import moments
from test_simplex import chance_set, chance_vectors

CUBE = tuple(itertools.product((0, 1), repeat=5))
POINTS = ((0, 1, 2, 3, 1), (2, 0, 1, 1, 3), (1, 1, 0, 2, 0), (3, 2, 1, 0, 1), (0, 0, 3, 1, 2), (1, 3, 2, 2, 0), (2, 2, 2, 1, 1))
RAYS = ((1, 0, 2, 1, 0), (0, 1, 1, 0, 2), (1, 1, 0, 0, 1))
LEAST = (("a", "b", "c"), 4, (
    (0, "a", 1), (0, "b", 2), (1, "b", 2), (1, "c", 3), (2, "a", 3), (2, "c", 0), (3, "a", 0), (3, "b", 3),
))


def ring(many, turning, resting):
    """Return a ring of states around which one action leads; another one stays where it is."""
    return behaviour_of(AB, *[(state, turning, (state + 1) % many) for state in range(many)], *[(state, resting, state) for state in range(many)])


def late(many):
    """Return a behaviour that leads to a set of states for each subset of the last places that had a b."""
    edges = [(state, action, state + 1) for state in range(1, many) for action in AB]
    return behaviour_of(AB, (0, "a", 0), (0, "b", 0), (0, "b", 1), *edges)


def limit_of(call, *args):
    """Return the limit that a call exceeds, or None."""
    try:
        call(*args)
    except TooMany as error:
        return error.limit
    return None


class SameAnswers(Case):
    def test_turned_facets(self):
        # Facets are found by turning where there are too many vectors for the quick way.
        chance = random.Random(321)
        quick = cones.described

        def described(few):
            return lambda vectors, most: quick(vectors, most) if len(vectors) <= few else None

        cases = [((tuple(sorted(chance_vectors(chance, chance.randint(6, 12), wide, 3)))), ()) for wide in (1, 2, 3, 4, 5) for _ in range(8)]
        cases += [chance_set(chance, wide, 3, 9) for wide in (2, 3, 4) for _ in range(25)]
        cases += [(CUBE, ()), (POINTS, RAYS), (moments(12, 5), ()), (tuple((*point, 3, point[0]) for point in itertools.product((0, 1, 2), repeat=3)), ())]
        turned = 0
        for points, rays in cases:
            if points:
                wanted = few_faces(points, rays)
                for few in (5, 6, 8):
                    with mock.patch.object(cones, "described", described(few)):
                        self.same(few_faces(points, rays), wanted)
                    turned += len(set(points)) + len(set(rays)) > few
        self.assertTrue(turned > 100)

    def test_many_facets_on_the_way(self):
        # The last points hide what the first ones have shown: there are far fewer facets in the end.
        chance = random.Random(322)
        for _ in range(2):
            some = tuple(chance_vectors(chance, 60, 5, 9, 1))
            corners = tuple(itertools.product((0, 10), repeat=5))
            self.same(faces(some + corners, ()), faces(corners, ()))
            self.same(len(faces(some + corners, ())[1]), 10)
        self.fails_with(TooMany, "limit", 400, faces, moments(40, 5), ())

    def test_hulls_that_are_asked_often(self):
        chance = random.Random(323)
        for _ in range(100):
            wide = chance.randint(1, 3)
            points, rays = chance_set(chance, wide, 3, 4)
            hull = Hull(points, rays)
            for x in chance_vectors(chance, 24, wide, 4):
                wanted = inside(points, rays, x)
                self.assertIs(hull.has(x), wanted, (points, rays, x))
                self.assertIs(Hull(points, rays).mix(x)[1] is None, wanted)
                columns = [(1, *point) for point in points] + [(0, *ray) for ray in rays]
                self.assertIs(is_sum(columns, (1, *x)), wanted)

    def test_sets_of_many_states(self):
        # Copies of a behaviour, whose edges lead from one to the next: the same runs, with more states.
        for behaviour in behaviours(324, 80):
            alphabet, size, edges = behaviour
            wanted = settled(behaviour)
            for copies in (2, 13, 29):
                if copies * size <= 150 and copies * len(edges) <= 750:
                    more = [(state + at * size, action, target + (at + 1) % copies * size) for state, action, target in edges for at in range(copies)]
                    self.same(settled(behaviour_of(alphabet, *more)), wanted)

    def test_all_ways_to_find_sets(self):
        for behaviour in behaviours(325, 150):
            alphabet, size, edges = behaviour
            moves = moves_of(alphabet, edges)
            rows = set_rows(moves, size, (0,), 2000)
            self.same(set_rows(moves, 1000, (0,), 2000), rows)
            with mock.patch("leastnet.seen.automata.single_targets", lambda table: None):
                self.same(set_rows(moves, size, (0,), 2000), rows)
                self.same(set_rows(moves, 65, (0,), 2000), rows)
            for most in range(1, len(rows)):
                self.fails_with(TooMany, "limit", most, set_rows, moves, size, (0,), most)

    def test_too_many_paths_are_told_early(self):
        chance = random.Random(326)
        found = {True: 0, False: 0}
        for _ in range(300):
            behaviour = chance_behaviour(chance, AB, chance.randint(1, 6), chance.randint(4, 9))
            many = len(paths(behaviour))
            circles = {tuple(sorted(circle)) for state in range(behaviour[1]) for circle in map(tuple, circles_at(behaviour, state))}
            for limit in (10, 20, 40):
                with mock.patch("leastnet.seen.circles.MAX_PATHS", limit), mock.patch("leastnet.seen.circles.SOME_PATHS", limit // 4):
                    wanted = many > limit or len(circles) > limit
                    found[wanted] += 1
                    self.assertEqual(limit_of(walked, behaviour), limit if wanted else None, behaviour)
                    with mock.patch("leastnet.seen.circles.are_too_many", lambda leaving: False):
                        self.assertEqual(limit_of(walked, behaviour), limit if wanted else None, behaviour)
        self.assertTrue(min(found.values()) > 50, found)

    def test_what_is_told_early(self):
        for many, wanted in ((1, False), (5, True)):
            for size in (6, 7):
                turning = (FIVE, size, tuple(sorted((state, action, (state + 1) % size) for state in range(size) for action in FIVE[:many])))
                self.assertIs(are_too_many(leaving_edges(turning)), wanted)
        line = (FIVE, 6, tuple((state, action, state + 1) for state in range(5) for action in FIVE))
        self.assertIs(are_too_many(leaving_edges(line)), False)
        # There are 3906 paths; with one edge back there are 3125 circles, with two of them there are too many.
        self.assertIs(are_too_many(leaving_edges((FIVE, 6, (*line[2], (5, "a", 0))))), False)
        self.assertIs(are_too_many(leaving_edges((FIVE, 6, (*line[2], (5, "a", 0), (5, "b", 0))))), True)


class Times(Case):
    def within(self, seconds, many, call):
        """So many calls take less time than this."""
        start = time.process_time()
        for _ in range(many):
            limit_of(call)
        self.assertTrue(time.process_time() - start < seconds, time.process_time() - start)

    def test_faces(self):
        self.within(8, 700, lambda: faces(CUBE, ()))
        self.within(6, 1500, lambda: faces(POINTS, RAYS))
        self.within(5, 4000, lambda: faces(tuple(point[:3] for point in POINTS), tuple(ray[:3] for ray in RAYS)))

    def test_least_nets(self):
        self.within(5, 800, lambda: least_net(LEAST))
        self.within(5, 800, lambda: list(unavoidable_words(LEAST, longest=4)))

    def test_too_many_paths(self):
        layers = [[0]] + [list(range(4 * at + 1, 4 * at + 5)) for at in range(7)]
        edges = [(one, "a", other) for first, second in zip(layers, layers[1:]) for one in first for other in second]
        behaviour = behaviour_of(("a",), *edges)
        self.fails_with(TooMany, "limit", 5000, all_points, behaviour)
        self.within(5, 1000, lambda: all_points(behaviour))
        turning = behaviour_of(FIVE, *[(state, action, (state + 1) % 6) for state in range(6) for action in FIVE])
        self.fails_with(TooMany, "limit", 5000, rays_of, turning)
        self.within(5, 1000, lambda: rays_of(turning))

    def test_many_sets(self):
        one, other, more = ring(32, "a", "b"), ring(48, "b", "a"), ring(67, "b", "a")
        self.same(limit_of(united, one, other), None)
        self.within(5, 200, lambda: united(one, other))
        self.within(5, 200, lambda: run_difference(one, other))
        for call in (lambda: united(one, more), lambda: run_difference(one, more), lambda: settled(late(12))):
            self.fails_with(TooMany, "limit", 2000, call)
            self.within(5, 200, call)
        self.within(5, 200, lambda: settled(late(11)))


if __name__ == "__main__":
    unittest.main()
