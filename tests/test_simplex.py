"""Tests of leastnet.hulls.simplex: [7.1]."""

import random
import time
import unittest
from fractions import Fraction
from math import gcd

from leastnet.errors import InvalidPoints, InvalidVector
from leastnet.hulls.simplex import Hull, Mixer, cone_multiples, greatest, hull_paper, in_cone, is_hull_paper, is_inside
from leastnet.hulls.simplex import paper_inside
from helpers import FORTY, Case, kinds, same
from reference import cone_solution, inside, is_int, product

NO_VECTORS = (
    1, None, "a", [], {}, True, [(1,)], (1,), ("a",), ([1],), ((),), ((1, 2), (1,)), ((1,), (1, 2)), ((-1,),), ((True,),), ((None,),),
    ((0,) * 6,), (((1,),),), ((1, "1"),), ((1,), None), ((1,), ()), ((1, -1),), ({1: 1},),
)


def is_fraction(value):
    """What [0.14] calls a fraction."""
    pair = isinstance(value, tuple) and len(value) == 2 and all(is_int(one) for one in value)
    return pair and value[1] > 0 and gcd(*value) == 1


def right_fractions(vectors, value):
    """A fraction of at least 0 for each vector."""
    return isinstance(value, tuple) and len(value) == len(vectors) and all(is_fraction(one) and one[0] >= 0 for one in value)


def is_paper(points, rays, x, value):
    """What [7.1] calls a paper."""
    if value[0] == "inside":
        if not right_fractions(points, value[1]) or not right_fractions(rays, value[2]):
            return False
        total = [sum(Fraction(*one) * vector[at] for one, vector in zip(value[1] + value[2], points + rays)) for at in range(len(x))]
        return sum(Fraction(*one) for one in value[1]) == 1 and total == list(x)
    _, u, v = value
    if not (isinstance(u, tuple) and len(u) == len(x) and all(is_int(one) for one in (*u, v))):
        return False
    return all(product(u, p) <= v for p in points) and all(product(u, z) <= 0 for z in rays) and product(u, x) >= v + 1


def chance_vectors(chance, many, wide, most, low=0):
    """Return vectors by chance."""
    return tuple(tuple(chance.randint(low, most) for _ in range(wide)) for _ in range(many))


def chance_set(chance, wide, most=4, few=5):
    """Return points and rays by chance; some of them are multiples or sums of others, or repeated."""
    points = chance_vectors(chance, chance.randint(0, few), wide, most)
    rays = tuple(ray for ray in chance_vectors(chance, chance.randint(0, 3), wide, 2) if any(ray))
    if rays and chance.random() < 0.4:
        rays += (tuple(2 * one for one in rays[0]), tuple(one + more for one, more in zip(rays[0], rays[-1])))
    if points and chance.random() < 0.4:
        points += (points[0], tuple(one + 1 for one in points[-1]))
    return points, rays


def is_vectors(value, wide=None, ray=False):
    """What may be passed as points, or as rays."""
    if not isinstance(value, tuple):
        return False
    for one in value:
        if not isinstance(one, tuple) or not 1 <= len(one) <= 5 or not all(is_int(number) and number >= 0 for number in one):
            return False
        if len(one) != (wide or len(value[0])) or ray and not any(one):
            return False
    return True


class Papers(Case):
    def test_examples(self):
        self.same(hull_paper(((0, 2), (2, 0)), (), (1, 1)), ("inside", ((1, 2), (1, 2)), ()))
        self.same(is_inside(((0, 0),), ((1, 1),), (3, 3)), True)
        self.same(is_hull_paper(((0, 0),), ((1, 1),), (1, 0), ("outside", (1, -1), 0)), True)

    def test_by_all_bases(self):
        chance = random.Random(81)
        found = {"inside": 0, "outside": 0}
        for _ in range(500):
            wide = chance.randint(1, 3)
            points, rays = chance_set(chance, wide, few=4)
            x = chance_vectors(chance, 1, wide, 6, -1)[0]
            paper = hull_paper(points, rays, x)
            found[paper[0]] += 1
            self.assertEqual(paper[0] == "inside", inside(points, rays, x))
            self.assertIs(is_inside(points, rays, x), paper[0] == "inside")
            self.assertTrue(is_paper(points, rays, x, paper))
            self.assertIs(is_hull_paper(points, rays, x, paper), True)
        self.assertTrue(min(found.values()) > 50)

    def test_large_sets(self):
        chance = random.Random(82)
        for _ in range(150):
            wide = chance.randint(1, 5)
            most = chance.choice((1, 2, 5, 100, FORTY))
            points = chance_vectors(chance, chance.randint(1, 60), wide, most)
            rays = tuple(ray for ray in chance_vectors(chance, chance.randint(0, 9), wide, most) if any(ray))
            for x in (*chance_vectors(chance, 3, wide, most), *chance_vectors(chance, 1, wide, 2, -2), points[-1]):
                paper = hull_paper(points, rays, x)
                self.assertTrue(is_paper(points, rays, x, paper))
                self.assertIs(is_hull_paper(points, rays, x, paper), True)
                self.assertIs(is_inside(points, rays, x), paper[0] == "inside")
            self.assertIs(is_inside(points, rays, points[0]), True)

    def test_mixtures_are_inside(self):
        chance = random.Random(83)
        for _ in range(100):
            wide = chance.randint(1, 5)
            points = chance_vectors(chance, 6, wide, 9)
            rays = tuple(ray for ray in chance_vectors(chance, 3, wide, 4) if any(ray))
            weights = [chance.randint(0, 4) for _ in points]
            whole = sum(weights) or 1
            if not any(weights):
                weights[0] = 1
            # The middle of the points, times the sum of the weights, so that it is made of integers.
            grown = tuple(tuple(whole * number for number in point) for point in points)
            x = tuple(sum(weight * point[at] for weight, point in zip(weights, points)) for at in range(wide))
            x = tuple(number + sum(2 * ray[at] for ray in rays) for at, number in enumerate(x))
            self.assertIs(is_inside(grown, rays, x), True)

    def test_without_points(self):
        for rays in ((), ((1, 0),), ((1, 0), (0, 1))):
            for x in ((0, 0), (1, 1), (-1, 5)):
                paper = hull_paper((), rays, x)
                self.assertEqual(paper[0], "outside")
                self.assertTrue(is_paper((), rays, x, paper))
                self.assertIs(is_hull_paper((), rays, x, paper), True)
                self.assertIs(is_hull_paper((), rays, x, ("outside", (0, 0), -1)), True)
                self.assertIs(is_hull_paper((), rays, x, ("outside", (0, 0), -5)), True)
                self.assertIs(is_hull_paper((), rays, x, ("outside", (0, 0), 0)), False)
                self.assertIs(is_inside((), rays, x), False)
                self.assertIs(is_hull_paper((), rays, x, ("inside", (), ((1, 1),) * len(rays))), False)

    def test_nothing_has_any_length(self):
        for many in range(1, 6):
            paper = hull_paper((), (), (3,) * many)
            self.assertTrue(is_paper((), (), (3,) * many, paper))
            self.assertIs(is_inside((), (), (-3,) * many), False)
            self.assertIs(is_hull_paper((), (), (0,) * many, ("outside", (0,) * many, -1)), True)
            self.assertIs(is_hull_paper((), (), (0,) * many, ("outside", (0,) * (many + 1), -1)), False)
        for call in (hull_paper, is_inside, lambda *args: is_hull_paper(*args, None)):
            for value in kinds():
                right = isinstance(value, tuple) and 1 <= len(value) <= 5 and all(is_int(one) for one in value)
                if right:
                    call((), (), value)
                else:
                    self.fails(InvalidVector, call, (), (), value)

    def test_what_is_kept_changes_no_answer(self):
        chance = random.Random(87)
        for _ in range(150):
            wide = chance.randint(1, 4)
            points, rays = chance_set(chance, wide)
            hull, mixer = Hull(points, rays), Mixer(rays)
            for x in chance_vectors(chance, 12, wide, 5, -1):
                paper = paper_inside(hull, x)
                self.assertTrue(is_paper(points, rays, x, paper))
                self.assertEqual(paper[0], hull_paper(points, rays, x)[0])
                multiples, u = cone_multiples(mixer, x)
                self.assertEqual(multiples is None, in_cone(rays, x) is None)
                if multiples is None:
                    self.assertTrue(product(u, x) > 0 and all(product(u, ray) <= 0 for ray in rays))
                else:
                    self.assertTrue(right_fractions(rays, multiples))
                    self.assertEqual([sum(Fraction(*one) * ray[at] for one, ray in zip(multiples, rays)) for at in range(wide)], list(x))

    def test_many_small_calls(self):
        start = time.process_time()
        for number in range(3000):
            hull_paper(((0, 2), (2, 0), (1, 1)), ((1, 2),), (number % 5, number % 7))
        self.assertTrue(time.process_time() - start < 5)


class Checks(Case):
    def test_near_papers(self):
        chance = random.Random(84)
        accepted = refused = 0
        for _ in range(200):
            wide = chance.randint(1, 3)
            points, rays = chance_set(chance, wide, 2, 3)
            x = chance_vectors(chance, 1, wide, 4)[0]
            paper = hull_paper(points, rays, x)
            for _ in range(10):
                if paper[0] == "inside":
                    parts = [list(paper[1]), list(paper[2])]
                    row = chance.choice(parts)
                    if row:
                        row[chance.randrange(len(row))] = chance.choice(((0, 1), (1, 2), (1, 1), (1, 3), (2, 1), (-1, 1), (2, 4), (0, 2)))
                    near = ("inside", tuple(parts[0]), tuple(parts[1]))
                else:
                    u = tuple(number + chance.choice((0, 0, 1, -1)) for number in paper[1])
                    near = ("outside", u, paper[2] + chance.choice((0, 0, 1, -1)))
                wanted = is_paper(points, rays, x, near)
                accepted += wanted
                refused += not wanted
                self.assertIs(is_hull_paper(points, rays, x, near), bool(wanted))
        self.assertTrue(accepted > 100 and refused > 100)

    def test_weights_may_be_zero(self):
        points, rays = ((0, 0), (2, 2), (1, 1)), ((1, 1), (1, 0))
        for weights, multiples in (
            (((1, 2), (1, 2), (0, 1)), ((0, 1), (0, 1))), (((0, 1), (0, 1), (1, 1)), ((0, 1), (0, 1))),
            (((1, 1), (0, 1), (0, 1)), ((1, 1), (0, 1))), (((3, 4), (1, 4), (0, 1)), ((1, 2), (0, 1))),
        ):
            self.assertIs(is_hull_paper(points, rays, (1, 1), ("inside", weights, multiples)), True)
        for weights in (((2, 4), (1, 2), (0, 1)), ((1, 2), (1, 2), (0, 2)), ((1, 2), (1, 2)), ((1, 2), (1, 2), 0), ((-1, 2), (1, 2), (1, 1)),
                        ((1, 2), (1, 2), (0, 1), (0, 1)), [(1, 2), (1, 2), (0, 1)], ((1, 2), (1, 2), (False, 1)), ((1, 1), (0, 1), (0, 1))):
            self.assertIs(is_hull_paper(points, rays, (1, 1), ("inside", weights, ((0, 1), (0, 1)))), False, weights)
        for multiples in ((), ((0, 1),), ((0, 1), (0, 3)), ((1, 1), (-1, 1)), [(0, 1), (0, 1)], None, ((0, 1), (0, 1), (0, 1)), ((0, 1), (0, True))):
            self.assertIs(is_hull_paper(points, rays, (1, 1), ("inside", ((1, 2), (1, 2), (0, 1)), multiples)), False, multiples)

    def test_multiples_below_zero_are_none(self):
        self.assertIs(is_hull_paper(((2, 2),), ((1, 1),), (1, 1), ("inside", ((1, 1),), ((-1, 1),))), False)
        self.assertIs(is_inside(((2, 2),), ((1, 1),), (1, 1)), False)
        self.assertIs(is_hull_paper(((0,), (2,)), (), (4,), ("inside", ((-1, 1), (2, 1)), ())), False)

    def test_weights_sum_to_one(self):
        self.assertIs(is_hull_paper(((0, 0), (2, 2)), (), (2, 2), ("inside", ((1, 1), (1, 1)), ())), False)
        self.assertIs(is_hull_paper(((0, 0), (2, 2)), (), (1, 1), ("inside", ((0, 1), (1, 2)), ())), False)
        self.assertIs(is_hull_paper(((0, 0), (2, 2)), (), (1, 1), ("inside", ((1, 2), (1, 2)), ())), True)

    def test_exact(self):
        points = ((FORTY, 1), (1, FORTY))
        self.assertIs(is_inside(points, (), ((FORTY + 1) // 2, (FORTY + 1) // 2)), True)
        self.assertIs(is_inside(points, (), ((FORTY + 1) // 2, (FORTY - 1) // 2)), False)
        self.assertIs(is_inside(((0, 0),), ((FORTY, FORTY - 1),), (FORTY - 1, FORTY - 2)), False)
        self.same(hull_paper(((0, 0),), ((FORTY, FORTY - 1),), (FORTY, FORTY - 1)), ("inside", ((1, 1),), ((1, 1),)))
        self.assertIs(is_hull_paper(((0,), (3 * FORTY,)), (), (FORTY,), ("inside", ((2, 3), (1, 3)), ())), True)
        wide = 10 ** 90 + 1
        self.assertIs(is_hull_paper(((0,), (wide - 1,)), (), (1,), ("inside", ((wide - 2, wide - 1), (1, wide - 1)), ())), True)

    def test_any_value(self):
        self.answers(lambda value: is_hull_paper(((1,),), (), (1,), value), lambda value: same(value, ("inside", ((1, 1),), ())))
        self.answers(lambda value: is_hull_paper(((1,),), (), (2,), value), lambda value: False)
        self.answers(lambda value: is_hull_paper(((0,),), (), (1,), value), lambda value: same(value, ("outside", (1,), 0)))
        self.answers(lambda value: is_hull_paper(((0,),), (), (1,), ("outside", value, 0)), lambda value: same(value, (1,)))
        self.answers(lambda value: is_hull_paper(((0,),), (), (5,), ("outside", (1,), value)),
                     lambda value: is_int(value) and 0 <= value <= 4)
        self.answers(lambda value: is_hull_paper(((0,),), (), (0,), ("inside", value, ())), lambda value: False)
        self.answers(lambda value: is_hull_paper(((0,),), (), (0,), ("inside", (value,), ())), lambda value: False)
        self.answers(lambda value: is_hull_paper(((0,),), (), (0,), ("inside", ((1, 1),), value)), lambda value: same(value, ()))
        self.answers(lambda value: is_hull_paper(((0,),), (), (0,), (value, ((1, 1),), ())), lambda value: False)
        self.assertIs(is_hull_paper(((0,),), (), (1,), ("beyond", (1,), 0)), False)
        self.assertIs(is_hull_paper(((1,),), (), (1,), ("within", ((1, 1),), ())), False)
        for value in (("inside", ((1, 1),)), ("inside", ((1, 1),), (), ()), ["inside", ((1, 1),), ()], ("outside", (1,), 0, 0), ("outside", (1,))):
            self.assertIs(is_hull_paper(((1,),), (), (1,), value), False)
            self.assertIs(is_hull_paper(((0,),), (), (1,), value), False)


class Errors(Case):
    calls = (hull_paper, is_inside, lambda *args: is_hull_paper(*args, None), greatest)

    def test_points_and_rays(self):
        for call in self.calls:
            for value in (*kinds(), *NO_VECTORS):
                if not is_vectors(value):
                    self.fails(InvalidPoints, call, value, (), None)
                if not is_vectors(value, 2):
                    self.fails(InvalidPoints, call, value, ((1, 1),), None)
                if not is_vectors(value, 1, ray=True):
                    self.fails(InvalidPoints, call, ((1,),), value, None)
            for points, rays in ((((1,),), ((0,),)), (((1, 1),), ((1, 0), (0, 0))), ((), ((0, 0),)), (((1,), (1, 1)), ()), (((0,),), ((-1,),))):
                self.fails(InvalidPoints, call, points, rays, (0,))

    def test_vectors(self):
        for call in self.calls:
            for value in kinds():
                right = isinstance(value, tuple) and len(value) == 2 and all(is_int(one) for one in value)
                if right:
                    call(((0, 0),), (), value)
                else:
                    self.fails(InvalidVector, call, ((0, 0),), (), value)
                    self.fails(InvalidVector, call, ((0, 0),), ((1, 0),), value)
        for value in ((0,), (0, 0, 0), [0, 0], (0, True), ()):
            self.fails(InvalidVector, hull_paper, (), ((1, 0),), value)

    def test_order(self):
        wrong = [("points", ((-1, 0),), InvalidPoints, None), ("rays", ((0, 0),), InvalidPoints, None), ("x", (1,), InvalidVector, None)]
        for call in self.calls:
            self.ordered(call, {"points": ((0, 0),), "rays": ((1, 0),), "x": (1, 1)}, wrong)
        self.leaves(hull_paper, ((0, 2), (2, 0)), ((1, 1),), (1, 5))


class Greatest(Case):
    def test_by_trying_all(self):
        chance = random.Random(85)
        for _ in range(300):
            wide = chance.randint(1, 4)
            points, rays = chance_set(chance, wide)
            u = chance_vectors(chance, 1, wide, 3, -3)[0]
            if not points:
                self.fails(InvalidPoints, greatest, points, rays, u)
                continue
            grows = [at for at, ray in enumerate(rays) if product(u, ray) > 0]
            products = [product(u, point) for point in points]
            wanted = ("grows", grows[0]) if grows else ("greatest", max(products), products.index(max(products)))
            self.same(greatest(points, rays, u), wanted)

    def test_examples(self):
        self.same(greatest(((0, 0), (1, 2), (2, 1)), (), (1, 1)), ("greatest", 3, 1))
        self.same(greatest(((5, 5),), ((0, 1), (1, 0), (1, 1)), (1, 0)), ("grows", 1))
        self.same(greatest(((5, 5),), ((0, 1),), (1, 0)), ("greatest", 5, 0))
        self.same(greatest(((5, 5), (5, 5)), (), (0, 0)), ("greatest", 0, 0))
        self.same(greatest(((FORTY,),), (), (-FORTY,)), ("greatest", -FORTY * FORTY, 0))
        self.fails(InvalidPoints, greatest, (), (), (1,))
        self.fails(InvalidPoints, greatest, (), ((1,),), None)


class InCone(Case):
    def test_by_all_bases(self):
        chance = random.Random(86)
        found = {True: 0, False: 0}
        for _ in range(400):
            wide = chance.randint(1, 3)
            rays = chance_set(chance, wide)[1]
            x = chance_vectors(chance, 1, wide, 4, chance.choice((0, 0, -2)))[0]
            multiples = in_cone(rays, x)
            wanted = cone_solution(rays, x)
            found[wanted] += 1
            self.assertEqual(multiples is not None, wanted)
            if wanted:
                self.assertTrue(right_fractions(rays, multiples))
                self.assertEqual([sum(Fraction(*one) * ray[at] for one, ray in zip(multiples, rays)) for at in range(wide)], list(x))
        self.assertTrue(min(found.values()) > 50)

    def test_without_rays(self):
        for many in range(1, 6):
            self.same(in_cone((), (0,) * many), ())
            self.same(in_cone((), (1,) * many), None)
        self.same(in_cone(((1, 1),), (0, 0)), ((0, 1),))
        self.same(in_cone(((2, 2),), (3, 3)), ((3, 2),))
        self.same(in_cone(((2, 2),), (3, 4)), None)
        self.same(in_cone(((2, 2),), (-2, -2)), None)
        self.same(in_cone(((FORTY, 1),), (1, 0)), None)

    def test_errors(self):
        for value in (*kinds(), *NO_VECTORS):
            if not is_vectors(value, ray=True):
                self.fails(InvalidPoints, in_cone, value, None)
            right = isinstance(value, tuple) and all(is_int(one) for one in value)
            if not (right and len(value) == 2):
                self.fails(InvalidVector, in_cone, ((1, 0),), value)
            if not (right and 1 <= len(value) <= 5):
                self.fails(InvalidVector, in_cone, (), value)
        self.leaves(in_cone, ((1, 1), (0, 1)), (2, 3))


if __name__ == "__main__":
    unittest.main()
