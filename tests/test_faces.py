"""Tests of leastnet.hulls.faces: [8.1] and stage 8."""

import itertools
import random
import time
import unittest
from fractions import Fraction

from leastnet.errors import InvalidPoints, InvalidVector, TooMany
from leastnet.hulls import faces as module
from leastnet.hulls.faces import corners, dimension, faces, holds_for, is_faces, is_part_paper, part_paper
from leastnet.hulls.simplex import in_cone, is_inside
from helpers import FORTY, Case, kinds, same
from reference import is_int, product
from test_simplex import NO_VECTORS, chance_set, chance_vectors, is_paper, is_vectors, right_fractions
import reference


def moments(many, wide):
    """Return points whose corners have as many faces as there can be."""
    return tuple(tuple(number ** power for power in range(1, wide + 1)) for number in range(many))


def box(wide, most):
    """Return all points of a box."""
    return tuple(itertools.product(range(most + 1), repeat=wide))


def some_sets(seed, many, wide=3, most=3):
    """Return points, at least one, and rays by chance."""
    chance = random.Random(seed)
    found = []
    while len(found) < many:
        points, rays = chance_set(chance, chance.randint(1, wide), most)
        if points:
            found.append((points, rays))
    return found


class Faces(Case):
    def test_constants(self):
        self.same((module.MAX_POINTS, module.MAX_FACES), (200, 400))

    def test_examples(self):
        self.same(faces(((0, 0),), ((1, 1),)), ((((1, -1), 0),), (((0, -1), 0),)))
        self.same(faces(((0, 0), (2, 0), (0, 2), (1, 1)), ()), ((), (((-1, 0), 0), ((0, -1), 0), ((1, 1), 2))))

    def test_by_all_planes(self):
        for points, rays in some_sets(91, 250) + some_sets(92, 15, 4, 2):
            found = faces(points, rays)
            self.same(found, reference.faces(points, rays))
            self.assertIs(is_faces(points, rays, found), True)
            self.assertIs(dimension(points, rays) == len(points[0]) - len(found[0]), True)

    def test_hold_for_what_is_inside(self):
        chance = random.Random(93)
        for points, rays in some_sets(94, 60, 5, 4):
            found = faces(points, rays)
            for x in (*points, *chance_vectors(chance, 12, len(points[0]), 5, -1)):
                self.assertIs(holds_for(found, x), is_inside(points, rays, x))

    def test_nothing_can_be_left_out(self):
        for points, rays in some_sets(95, 40, 5, 3):
            equations, inequalities = faces(points, rays)
            rank = dimension(points, rays)
            for u, v in inequalities:
                on = [point for point in points if product(u, point) == v]
                along = [ray for ray in rays if product(u, ray) == 0]
                self.assertTrue(on)
                rows = [[one - other for one, other in zip(point, on[0])] for point in on] + [list(ray) for ray in along]
                self.assertEqual(len(reference.plain_rows(rows)), rank - 1)

    def test_one_point(self):
        self.same(faces(((3, 0, 5),), ()), ((((1, 0, 0), 3), ((0, 1, 0), 0), ((0, 0, 1), 5)), ()))
        self.same(faces(((7,), (7,)), ()), ((((1,), 7),), ()))
        self.same(corners(((3, 0, 5),) * 3, ()), ((3, 0, 5),))
        self.same(dimension(((3, 0, 5),), ()), 0)

    def test_points_on_a_line(self):
        line = tuple((number, 2 * number, 1) for number in range(200))
        self.same(faces(line, ()), ((((2, -1, 0), 0), ((0, 0, 1), 1)), (((0, -1, 0), 0), ((0, 1, 0), 398))))
        self.same(corners(line, ()), ((0, 0, 1), (199, 398, 1)))
        self.same(dimension(line, ()), 1)
        line = line[:198]
        self.same(faces(line, ((1, 2, 0),)), ((((2, -1, 0), 0), ((0, 0, 1), 1)), (((0, -1, 0), 0),)))
        self.same(corners(line, ((1, 2, 0), (3, 6, 0))), ((0, 0, 1),))

    def test_pivots_and_common_factors(self):
        # The equation 2 x - 3 y = 1 has no 1 at its pivot.
        self.same(faces(((2, 1), (5, 3)), ()), ((((2, -3), 1),), (((0, -1), -1), ((0, 1), 3))))
        self.same(faces(((0, 0), (2, 4), (4, 2)), ()), ((), (((-2, 1), 0), ((1, -2), 0), ((1, 1), 6))))
        self.same(faces(((1, 0, 0), (0, 1, 0), (0, 0, 1)), ()),
                  ((((1, 1, 1), 1),), (((0, -1, 0), 0), ((0, 0, -1), 0), ((0, 1, 1), 1))))

    def test_rays(self):
        # Rays that are multiples or sums of others change nothing, nor does their order.
        wanted = faces(((0, 0), (1, 0)), ((1, 2), (2, 1)))
        self.same(wanted, ((), (((-2, 1), 0), ((0, -1), 0), ((1, -2), 1))))
        for rays in itertools.permutations(((2, 1), (1, 2), (4, 2), (3, 3))):
            self.same(faces(((1, 0), (0, 0), (1, 0)), rays), wanted)
        self.same(faces(((2, 3),), ((1, 0), (0, 1))), ((), (((-1, 0), -2), ((0, -1), -3))))
        self.same(faces(((0, 0, 0), (0, 0, 5)), ((1, 0, 0), (0, 1, 0))),
                  ((), (((-1, 0, 0), 0), ((0, -1, 0), 0), ((0, 0, -1), 0), ((0, 0, 1), 5))))
        self.same(faces(((4, 4),), ((1, 3),)), ((((3, -1), 8),), (((0, -1), -4),)))

    def test_any_order_and_repeated(self):
        chance = random.Random(96)
        for points, rays in some_sets(97, 60, 4):
            wanted = faces(points, rays)
            mixed, others = list(points * 2), list(rays * 2)
            chance.shuffle(mixed)
            chance.shuffle(others)
            self.same(faces(tuple(mixed), tuple(others)), wanted)
            self.same(corners(tuple(mixed), tuple(others)), corners(points, rays))

    def test_known_numbers(self):
        for many, wide, wanted in ((20, 2, 20), (30, 3, 56), (20, 4, 170), (20, 5, 272), (29, 4, 377)):
            self.assertEqual(len(faces(moments(many, wide), ())[1]), wanted)
        for wide, most in ((5, 1), (4, 2), (3, 4), (2, 13), (1, 199)):
            self.assertEqual(len(faces(box(wide, most), ())[1]), 2 * wide)
            self.assertEqual(len(corners(box(wide, most), ())), 2 ** wide)
        cross = tuple(tuple(1 + (at == axis) * sign for at in range(5)) for axis in range(5) for sign in (1, -1))
        self.assertEqual(len(faces(cross, ())[1]), 32)

    def test_large_numbers(self):
        chance = random.Random(98)
        for _ in range(6):
            wide = chance.randint(2, 3)
            points = chance_vectors(chance, 5, wide, FORTY)
            rays = chance_vectors(chance, 2, wide, FORTY)
            self.same(faces(points, rays), reference.faces(points, rays))
        self.same(faces(((0, 0), (FORTY, FORTY - 1)), ()), ((((FORTY - 1, -FORTY), 0),), (((0, -1), 0), ((0, 1), FORTY - 1))))

    def test_limit_of_points(self):
        parabola = moments(201, 2)
        self.assertEqual(len(faces(parabola[:200], ())[1]), 200)
        self.assertEqual(len(corners(parabola[:200], ())), 200)
        self.same(faces(parabola[:200] * 2, ()), faces(parabola[:200], ()))
        mixed = (parabola[:150], tuple((1 + number, 1) for number in range(50)))
        rest = (((1, 0), (0, 1), (1, 0)), tuple((1 + number, 1) for number in range(198)))
        for call in (faces, corners, dimension, lambda points, rays: is_faces(points, rays, None)):
            call(*mixed)
            call(*rest)
            self.fails_with(TooMany, "limit", 200, call, parabola, ())
            self.fails_with(TooMany, "limit", 200, call, parabola[:151], mixed[1])
            self.fails_with(TooMany, "limit", 200, call, rest[0], (*rest[1], (1, 7)))
            self.fails_with(TooMany, "limit", 200, call, ((1, 1),), tuple((1 + number, 1) for number in range(200)))
        # The same vector may be a point and a ray; it counts twice.
        both = tuple((number, 1) for number in range(1, 101))
        faces(both, both)
        self.fails_with(TooMany, "limit", 200, faces, (*both, (0, 0)), both)

    def test_limit_of_faces(self):
        self.assertEqual(len(faces(moments(200, 3), ())[1]), 396)
        start = time.process_time()
        for points in (moments(30, 4), moments(200, 4), moments(25, 5), moments(200, 5)):
            self.fails_with(TooMany, "limit", 400, faces, points, ())
            self.fails_with(TooMany, "limit", 400, is_faces, points, (), ((), ()))
            self.assertEqual(len(corners(points, ())), len(points))
            self.same(dimension(points, ()), len(points[0]))
        self.assertTrue(time.process_time() - start < 20)
        # One more number that is always the same is one more equation: 377 and 23 of them are not too many.
        prism = tuple((*point, 0) for point in moments(29, 4))
        self.assertEqual([len(part) for part in faces(prism, ())], [1, 377])
        # A tower over many faces has two more; the one below and the one above have many faces of their own.
        tower = tuple((*point, end) for point in moments(29, 4) for end in (0, 1))
        self.assertEqual(len(faces(tower, ())[1]), 379)
        self.fails_with(TooMany, "limit", 400, faces, tuple((*point, end) for point in moments(40, 4) for end in (0, 1)), ())

    def double_pyramid(self, many):
        """Return points with twice as many faces as so many points of three numbers have."""
        below = moments(many, 3)
        middle = tuple(sum(point[at] for point in below) for at in range(3))
        return tuple((*(many * number for number in point), 1) for point in below) + ((*middle, 0), (*middle, 2))

    def test_exactly_at_the_limit(self):
        for many, wanted in ((101, 396), (102, 400)):
            found = faces(self.double_pyramid(many), ())
            self.assertEqual([len(part) for part in found], [0, wanted])
        self.fails_with(TooMany, "limit", 400, faces, self.double_pyramid(103), ())
        # Equations count, too.
        self.fails_with(TooMany, "limit", 400, faces, tuple((*point, 7) for point in self.double_pyramid(102)), ())
        # Far away from all points these rays make one more, which is no face.
        rays = tuple((1, *point) for point in self.double_pyramid(102))
        self.assertEqual([len(part) for part in faces(((0,) * 5,), rays)], [0, 400])
        self.fails_with(TooMany, "limit", 400, faces, ((0,) * 5,), tuple((1, *point) for point in self.double_pyramid(103)))
        points = self.double_pyramid(101)
        u, v = faces(points, ())[1][5]
        on = [point for point in points if product(u, point) == v]
        self.assertEqual(len(on), 4)
        # A corner just outside of one face puts four faces in its place.
        grown = tuple(tuple(10 ** 20 * number for number in point) for point in points)
        corner = tuple(10 ** 20 * sum(point[at] for point in on) // 4 + u[at] for at in range(4))
        more = (*grown, corner)
        self.assertEqual([len(part) for part in faces(more, ())], [0, 399])
        self.assertEqual([len(part) for part in faces(tuple((*point, 7) for point in more), ())], [1, 399])


class Checks(Case):
    def test_is_faces(self):
        for points, rays in some_sets(99, 60):
            equations, inequalities = faces(points, rays)
            wrong = [(inequalities, equations), (equations, inequalities[::-1]), (equations + equations[:1], inequalities),
                     (equations, inequalities + (((0,) * len(points[0]), 1),)), [equations, inequalities], (equations, list(inequalities)),
                     (equations, inequalities, ()), (equations,), None]
            if inequalities:
                (u, v), *rest = inequalities
                wrong += [(equations, tuple(rest)), (equations, ((u, v + 1), *rest)), (equations, ((tuple(2 * one for one in u), 2 * v), *rest)),
                          (equations, ((list(u), v), *rest)), (equations, ((u, v, 0), *rest))]
            if equations:
                (u, v), *rest = equations
                wrong += [(tuple(rest), inequalities), (((tuple(-one for one in u), -v), *rest), inequalities)]
            for value in wrong:
                self.assertIs(is_faces(points, rays, value), value == (equations, inequalities), value)
        self.answers(lambda value: is_faces(((1,),), (), value), lambda value: False)
        self.answers(lambda value: is_faces(((0,),), (), value), lambda value: same(value, ((((1,), 0),), ())))

    def test_true_is_no_integer(self):
        right = ((((1, -1), 0),), (((0, -1), 0),))
        self.assertIs(is_faces(((0, 0),), ((1, 1),), right), True)
        for wrong in (((((True, -1), 0),), (((0, -1), 0),)), ((((1, -1), False),), (((0, -1), 0),)), ((((1, -1), 0),), (((False, -1), 0),))):
            self.assertTrue(wrong == right)
            self.assertIs(is_faces(((0, 0),), ((1, 1),), wrong), False)

    def test_holds_for(self):
        chance = random.Random(100)
        for _ in range(200):
            wide = chance.randint(1, 4)
            pairs = [(chance_vectors(chance, 1, wide, 2, -2)[0], chance.randint(-3, 3)) for _ in range(chance.randint(1, 4))]
            at = chance.randint(0, 1)
            description = tuple(pairs[:at]), tuple(pairs[at:])
            x = chance_vectors(chance, 1, wide, 3, -3)[0]
            wanted = all(product(u, x) == v for u, v in pairs[:at]) and all(product(u, x) <= v for u, v in pairs[at:])
            self.assertIs(holds_for(description, x), wanted)
        for many in range(1, 6):
            self.assertIs(holds_for(((), ()), (-5,) * many), True)
        self.assertIs(holds_for(((((0, 0), 1),), ()), (1, 1)), False)
        self.assertIs(holds_for(((((2, 2), 4),), ()), (1, 1)), True)

    def test_wrong_descriptions(self):
        pair = ((1, 0), 1)
        for value in kinds():
            if not any(same(value, one) for one in (((), ()), ((((1,), 0),), ()))):
                self.fails(InvalidPoints, holds_for, value, None)
            if not (isinstance(value, tuple) and len(value) == 2 and all(is_int(one) for one in value)):
                self.fails(InvalidVector, holds_for, ((pair,), ()), value)
            if not (isinstance(value, tuple) and 1 <= len(value) <= 5 and all(is_int(one) for one in value)):
                self.fails(InvalidVector, holds_for, ((), ()), value)
            if not is_int(value):
                self.fails(InvalidPoints, holds_for, ((), (((1, 0), value),)), (0, 0))
            self.fails(InvalidPoints, holds_for, ((pair, value), ()), (0, 0))
            self.fails(InvalidPoints, holds_for, ((pair,), (value,)), (0, 0))
        for value in (((pair,),), ((pair,), (), ()), [(pair,), ()], ([pair], ()), ((pair,), [pair]), ((pair,), (((1,), 1),)), ((((), 1),), ()),
                      ((((1, True), 1),), ()), ((((1, 0), 1, 1),), ()), ((((1,) * 6, 1),), ()), (((((1, 0), 1)),), (([1, 0], 1),))):
            self.fails(InvalidPoints, holds_for, value, (0, 0))
        self.ordered(holds_for, {"description": ((pair,), ()), "x": (1, 1)},
                     [("description", ((pair,), None), InvalidPoints, None), ("x", (1,), InvalidVector, None)])

    def test_wrong_points(self):
        calls = (faces, corners, dimension, lambda points, rays: is_faces(points, rays, None))
        many = tuple((number,) for number in range(300))
        for call in calls:
            for value in (*kinds(), *NO_VECTORS):
                if not is_vectors(value) or value == ():
                    self.fails(InvalidPoints, call, value, ())
                if not is_vectors(value, 1, ray=True):
                    self.fails(InvalidPoints, call, many, value)
            self.fails(InvalidPoints, call, (), ((1,),))
            self.fails(InvalidPoints, call, (), ())
            self.fails(InvalidPoints, call, many, ((0,),))
            self.fails(InvalidPoints, call, (*many, (1, 1)), ())
        self.leaves(faces, ((0, 0), (2, 0), (0, 2)), ((1, 1),))


class Corners(Case):
    def test_by_what_the_others_have_inside(self):
        for points, rays in some_sets(101, 200):
            kept = sorted(set(points))
            wanted = tuple(point for point in kept if not reference.inside([one for one in kept if one != point], rays, point))
            self.same(corners(points, rays), wanted)

    def test_examples(self):
        self.same(corners(((0, 0), (2, 0), (0, 2), (1, 1)), ()), ((0, 0), (0, 2), (2, 0)))
        self.same(corners(((0, 0), (2, 0), (0, 2), (3, 3)), ((1, 1),)), ((0, 0), (0, 2), (2, 0)))
        self.same(corners(((3, 3), (0, 2)), ((1, 0), (0, 1))), ((0, 2),))
        self.same(dimension(((0, 0), (2, 0)), ((1, 1),)), 2)
        self.same(dimension(((0, 0, 1), (1, 1, 1)), ((2, 2, 0),)), 1)


def is_part(first, second, value):
    """What stage 8 calls a paper."""
    if value[0] == "part":
        if len(value[1]) != len(first[0]) or len(value[2]) != len(first[1]):
            return False
        papers = all(paper[0] == "inside" and is_paper(*second, point, paper) for point, paper in zip(first[0], value[1]))
        return papers and all(
            right_fractions(second[1], multiples)
            and [sum(Fraction(*one) * other[at] for one, other in zip(multiples, second[1])) for at in range(len(ray))] == list(ray)
            for ray, multiples in zip(first[1], value[2])
        )
    if value[0] == "point":
        return 0 <= value[1] < len(first[0]) and is_paper(*second, first[0][value[1]], ("outside", *value[2:]))
    _, index, u = value
    return 0 <= index < len(first[1]) and all(product(u, ray) <= 0 for ray in second[1]) and product(u, first[1][index]) > 0


class Parts(Case):
    def test_papers(self):
        found = {}
        sets = some_sets(102, 1500, 2, 3)
        for first, second in zip(sets[::2], sets[1::2]):
            if len(first[0][0]) != len(second[0][0]):
                self.fails(InvalidPoints, part_paper, first, second)
                self.fails(InvalidPoints, is_part_paper, first, second, None)
                continue
            paper = part_paper(first, second)
            found[paper[0]] = found.get(paper[0], 0) + 1
            self.assertTrue(is_part(first, second, paper))
            self.assertIs(is_part_paper(first, second, paper), True)
            wanted = all(is_inside(*second, point) for point in first[0]) and all(in_cone(second[1], ray) is not None for ray in first[1])
            self.assertEqual(paper[0] == "part", wanted)
        self.assertTrue(len(found) == 3 and min(found.values()) > 10, found)

    def test_other_papers(self):
        first = ((0, 0), (4, 0)), ((1, 1),)
        second = ((0, 0), (2, 0)), ((0, 1),)
        for index in (-1, 0, 1, 2, True, None):
            for u in ((1, 0), (1, -1), (0, -1), (0, 1), (2, 0), (1,), [1, 0]):
                for v in (0, 2, 3, 4, 1, True):
                    paper = ("point", index, u, v)
                    right = is_int(index) and is_int(v) and isinstance(u, tuple) and is_part(first, second, paper)
                    self.assertIs(is_part_paper(first, second, paper), right)
                paper = ("ray", index, u)
                right = is_int(index) and isinstance(u, tuple) and len(u) == 2 and is_part(first, second, paper)
                self.assertIs(is_part_paper(first, second, paper), right)
        for wrong in (("ray", 0, (1, 0), 0), ("line", 0, (1, 0)), ("point", 1, (1, 0), 2, 0), ("spot", 1, (1, 0), 2), ["ray", 0, (1, 0)]):
            self.assertIs(is_part_paper(first, second, wrong), False)
        self.assertIs(is_part_paper(first, second, ("ray", 0, (1, 0))), True)
        self.assertIs(is_part_paper(first, second, ("point", 1, (1, 0), 2)), True)
        part = part_paper(second, ((((0, 0), (4, 0)), ((0, 1), (1, 0)))))
        self.same(part[0], "part")
        third = ((0, 0), (4, 0)), ((0, 1), (1, 0))
        self.assertIs(is_part_paper(second, third, part), True)
        papers, multiples = part[1], part[2]
        for wrong in (("part", papers), ("part", papers[:1], multiples), ("part", papers, ()), ("part", papers[::-1], multiples),
                      ("part", list(papers), multiples), ("part", papers, list(multiples)), ("part", papers, (((0, 1), (1, 1)),)),
                      ("part", papers, (((1, 1), (0, 1), (0, 1)),)), ("part", papers, (((2, 2), (0, 1)),)), ("part", papers, multiples, ()),
                      ("part", papers, (((1, 1),),)), ("part", (papers[0], ("outside", (1, 0), 0)), multiples), ["part", papers, multiples]):
            self.assertIs(is_part_paper(second, third, wrong), False, wrong)
        self.assertIs(is_part_paper((((2, 2),), ()), (((0, 0), (2, 2)), ()), ("part", (("inside", ((0, 1), (1, 1)), ()),), ())), True)

    def test_any_value(self):
        whole = (((1,),), ())
        self.answers(lambda value: is_part_paper(whole, whole, value), lambda value: False)
        self.answers(lambda value: is_part_paper(whole, whole, ("part", (value,), ())), lambda value: same(value, ("inside", ((1, 1),), ())))
        self.answers(lambda value: is_part_paper(whole, (((0,),), ()), value), lambda value: same(value, ("point", 0, (1,), 0)))
        self.answers(lambda value: is_part_paper((((0,),), ((1,),)), (((0,),), ()), value), lambda value: same(value, ("ray", 0, (1,))))
        self.answers(lambda value: is_part_paper((((0,),), ((1,),)), (((0,),), ()), ("ray", 0, value)), lambda value: same(value, (1,)))
        self.answers(lambda value: is_part_paper(whole, (((0,),), ()), ("point", value, (1,), 0)), lambda value: same(value, 0))

    def test_errors(self):
        whole = (((1, 1),), ((1, 0),))
        wrong = [value for value in kinds()] + [(((1, 1),),), (((1, 1),), (), ()), [((1, 1),), ()], ((), ()), ((), ((1, 0),)), (((1,),), ()),
                                                (((1, 1),), ((0, 0),)), (((-1, 1),), ()), (((1, 1),), None), (None, ())]
        for value in wrong:
            for call in (part_paper, lambda one, other: is_part_paper(one, other, None)):
                self.fails(InvalidPoints, call, value, whole)
                self.fails(InvalidPoints, call, whole, value)
        self.leaves(part_paper, whole, (((0, 0),), ((1, 1), (1, 0))))


if __name__ == "__main__":
    unittest.main()
