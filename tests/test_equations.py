"""Tests of reduced, kernel, solved and is_solved: [2.1]."""

import random
import unittest
from fractions import Fraction
from math import gcd

from leastnet.base.fractions import is_solved, kernel, reduced, solved
from leastnet.errors import InvalidPoints, InvalidVector
from helpers import FORTY, Case, kinds

NO_ROWS = (
    (), ((),), ((), ()), ((1,), (1, 2)), ((1, 2), (1,)), ((0,) * 61,), [(1,)], ([1],), ((1,), [1]), ((True,),), ((1, False),),
    ((1,), (None,)), ((1,), 1), (1,), 1, None, "a", ("a",), {(1,): 1}, ((1, 2), (1, "2")), (((1,),),), ((1,), ()),
)


def right_rows(value):
    """What [2.1] calls rows."""
    if not isinstance(value, tuple) or not all(isinstance(row, tuple) for row in value):
        return False
    whole = all(one.__class__ is int for row in value for one in row)
    return whole and len(set(map(len, value))) == 1 and 1 <= len(value[0]) <= 60


def plain_form(rows):
    """Return the rows with 1 at each pivot, as Fractions: an elimination of its own."""
    found = [[Fraction(number) for number in row] for row in rows]
    done = 0
    for column in range(len(found[0])):
        pivots = [at for at in range(done, len(found)) if found[at][column] != 0]
        if pivots:
            found[done], found[pivots[0]] = found[pivots[0]], found[done]
            found[done] = [number / found[done][column] for number in found[done]]
            for at, row in enumerate(found):
                if at != done:
                    found[at] = [number - row[column] * less for number, less in zip(row, found[done])]
            done += 1
    return found[:done]


def whole(row):
    """Return the row of Fractions with its denominators and its common factor taken away."""
    below = 1
    for number in row:
        below = below * number.denominator // gcd(below, number.denominator)
    numbers = [int(number * below) for number in row]
    return tuple(number // gcd(*numbers) for number in numbers)


def chance_rows(chance, many, length, size):
    """Return rows, some of them sums of multiples of others, or all 0."""
    rows = [[chance.randint(-size, size) for _ in range(length)] for _ in range(many)]
    for at in range(1, many):
        if chance.random() < 0.4:
            rows[at] = [chance.randint(-2, 2) * one + 3 * other for one, other in zip(rows[0], rows[at - 1])]
        if chance.random() < 0.2:
            factor, row = chance.randint(-2, 2), rows[chance.randrange(at)]
            rows[at] = [factor * one for one in row]
    return tuple(tuple(row) for row in rows)


class Reduced(Case):
    def test_ordinary(self):
        self.same(reduced(((2, 4, 2), (1, 1, 0))), ((1, 0, -1), (0, 1, 1)))
        self.same(reduced(((-2, 4),)), ((1, -2),))
        self.same(reduced(((0, 0, -3, 6), (0, 0, 1, -2))), ((0, 0, 1, -2),))
        self.same(reduced(((0, 1), (1, 0))), ((1, 0), (0, 1)))
        self.same(reduced(((3, 0, 1), (0, 2, 1))), ((3, 0, 1), (0, 2, 1)))

    def test_all_zero(self):
        self.same(reduced(((0,),)), ())
        self.same(reduced(((0,) * 60,) * 3), ())
        self.same(reduced(((0, 0), (0, -5), (0, 0))), ((0, 1),))

    def test_lengths(self):
        self.same(reduced(((-4,),)), ((1,),))
        self.same(reduced((tuple(range(60)),)), (tuple(range(60)),))
        self.same(reduced((tuple(2 * number for number in range(60)),) * 70), (tuple(range(60)),))

    def test_big_numbers(self):
        self.same(reduced(((FORTY, 2 * FORTY), (FORTY - 1, 2 * FORTY - 2))), ((1, 2),))
        self.same(reduced(((FORTY, FORTY - 1), (FORTY - 1, FORTY - 2))), ((1, 0), (0, 1)))
        self.same(reduced(((FORTY, 0, 1), (0, FORTY - 1, 1))), ((FORTY, 0, 1), (0, FORTY - 1, 1)))

    def test_chance(self):
        chance = random.Random(4)
        for size in (1, 3, 20, 10 ** 40):
            for _ in range(150):
                rows = chance_rows(chance, chance.randint(1, 7), chance.randint(1, 7), size)
                found = reduced(rows)
                self.same(found, tuple(whole(row) for row in plain_form(rows)))
                if found:
                    self.same(reduced(found), found)

    def test_errors(self):
        for value in NO_ROWS:
            self.fails(InvalidPoints, reduced, value)
            self.fails(InvalidPoints, kernel, value)
        for call in (reduced, kernel):
            self.refuses(InvalidPoints, call, right_rows)
            self.refuses(InvalidPoints, lambda value: call((value,)), lambda value: right_rows((value,)))
            self.refuses(InvalidPoints, lambda value: call(((1, value),)), lambda value: value.__class__ is int)

    def test_arguments_stay(self):
        self.leaves(reduced, ((2, 4, 2), (1, 1, 0)))
        self.leaves(kernel, ((2, 4, 2), (1, 1, 0)))
        self.leaves(solved, ((2, 4, 2), (1, 1, 0)), (1, 2))


class Kernel(Case):
    def test_ordinary(self):
        self.same(kernel(((1, 1, 0), (0, 1, 1))), ((1, -1, 1),))
        self.same(kernel(((2, -3),)), ((3, 2),))
        self.same(kernel(((0, 0, 1),)), ((1, 0, 0), (0, 1, 0)))
        self.same(kernel(((1, 0, 0),)), ((0, 1, 0), (0, 0, 1)))

    def test_edges(self):
        self.same(kernel(((5,),)), ())
        self.same(kernel(((0,),)), ((1,),))
        self.same(kernel(((1, 2), (3, 4))), ())
        unit = tuple(tuple(int(row == column) for column in range(60)) for row in range(60))
        self.same(kernel(((0,) * 60,)), unit)
        self.same(kernel(unit), ())
        self.same(kernel(unit[:-1]), unit[-1:])
        self.same(kernel(((FORTY, -1),)), ((1, FORTY),))

    def test_long_rows(self):
        chance = random.Random(5)
        for many, size in ((1, 10 ** 40), (5, 10 ** 40), (30, 9), (59, 2)):
            rows = tuple(tuple(chance.randint(-size, size) for _ in range(60)) for _ in range(many))
            found = kernel(rows)
            self.same(len(found), 60 - len(reduced(rows)))
            self.same(reduced(found), found)
            for one in found:
                self.assertTrue(all(sum(x * y for x, y in zip(one, row)) == 0 for row in rows))

    def test_chance(self):
        chance = random.Random(6)
        for size in (1, 3, 10 ** 40):
            for _ in range(150):
                rows = chance_rows(chance, chance.randint(1, 6), chance.randint(1, 7), size)
                found = kernel(rows)
                self.same(len(found), len(rows[0]) - len(plain_form(rows)))
                for one in found:
                    self.assertTrue(all(sum(x * y for x, y in zip(one, row)) == 0 for row in rows))
                if found:
                    self.same(found, tuple(whole(row) for row in plain_form(found)))


class Solved(Case):
    def paper(self, rows, right):
        """Return the paper, after a check of it that uses nothing of the package but is_solved."""
        found = solved(rows, right)
        self.assertIs(is_solved(rows, right, found), True)
        kind, numbers = found
        if kind == "solution":
            x = [Fraction(*number) for number in numbers]
            self.same(tuple((one.numerator, one.denominator) for one in x), numbers)
            self.same([sum(u * v for u, v in zip(row, x)) == number for row, number in zip(rows, right)], [True] * len(rows))
        else:
            self.same((kind, len(numbers)), ("conflict", len(rows)))
            self.same([sum(u * v for u, v in zip(numbers, column)) for column in zip(*rows)], [0] * len(rows[0]))
            self.assertNotEqual(sum(u * v for u, v in zip(numbers, right)), 0)
        return kind

    def test_ordinary(self):
        self.same(solved(((1, 1), (2, 2)), (1, 3))[0], "conflict")
        self.same(solved(((1, 1), (1, -1)), (1, 2)), ("solution", ((3, 2), (-1, 2))))
        self.same(solved(((2,),), (3,)), ("solution", ((3, 2),)))
        self.same(self.paper(((1, 1), (2, 2)), (1, 2)), "solution")
        self.same(self.paper(((1, 1), (2, 2)), (1, 3)), "conflict")

    def test_edges(self):
        self.same(solved(((0,),), (0,))[0], "solution")
        self.same(self.paper(((0,),), (0,)), "solution")
        self.same(self.paper(((0,),), (FORTY,)), "conflict")
        self.same(self.paper(((0,) * 60,) * 2, (0, 1)), "conflict")
        self.same(self.paper(((0,) * 60,) * 2, (0, 0)), "solution")
        self.same(self.paper((tuple(range(60)),), (-7,)), "solution")
        self.same(self.paper(((FORTY, 1), (1, FORTY)), (FORTY, -FORTY)), "solution")
        self.same(self.paper(((FORTY, 1), (FORTY, 1)), (FORTY, FORTY - 1)), "conflict")
        self.same(self.paper(tuple((number,) for number in range(100)), tuple(range(100))), "solution")
        self.same(self.paper(tuple((number,) for number in range(100)), (*range(99), 98)), "conflict")

    def test_chance(self):
        chance = random.Random(7)
        told = {"solution": 0, "conflict": 0}
        for size in (1, 3, 10 ** 40):
            for _ in range(300):
                rows = chance_rows(chance, chance.randint(1, 7), chance.randint(1, 6), size)
                right = tuple(chance.randint(-size, size) for _ in rows)
                joined = tuple((*row, number) for row, number in zip(rows, right))
                wanted = "solution" if len(plain_form(joined)) == len(plain_form(rows)) else "conflict"
                self.same(self.paper(rows, right), wanted)
                told[wanted] += 1
        self.assertTrue(min(told.values()) > 100)

    def test_many_rows(self):
        chance = random.Random(12)
        told = []
        for _ in range(60):
            rows = chance_rows(chance, chance.randint(11, 32), chance.randint(9, 25), 3)
            self.same(reduced(rows), tuple(whole(row) for row in plain_form(rows)))
            x = [chance.randint(-5, 5) for _ in rows[0]]
            right = [sum(u * v for u, v in zip(row, x)) for row in rows]
            self.same(self.paper(rows, tuple(right)), "solution")
            right[chance.randrange(len(right))] += 1
            told.append(self.paper(rows, tuple(right)))
        self.assertTrue(5 < told.count("conflict") < 55)

    def test_errors(self):
        for call in (solved, lambda rows, right: is_solved(rows, right, None)):
            wrong = [("rows", (1,), InvalidPoints, None), ("right", (1,), InvalidVector, None)]
            self.ordered(call, {"rows": ((1,), (2,)), "right": (1, 2)}, wrong)
            for value in NO_ROWS:
                self.fails(InvalidPoints, call, value, (1,))
            for value in kinds():
                self.fails(InvalidVector if right_rows(value) else InvalidPoints, call, value, ())
            for right in ((), (1,), (1, 2, 3), [1, 2], (1, True), (1, None), 1, None, ((1,), (2,)), "ab", {1: 1, 2: 2}):
                self.fails(InvalidVector, call, ((1,), (2,)), right)
            self.refuses(InvalidVector, lambda value: call(((1,),), value),
                         lambda value: isinstance(value, tuple) and [one.__class__ for one in value] == [int])

    def test_as_many_as_rows(self):
        rows = ((1,),) * 7
        self.same(solved(rows, (3,) * 7), ("solution", ((3, 1),)))
        self.fails(InvalidVector, solved, rows, (3,) * 6)


class IsSolved(Case):
    ROWS = ((1, 1, 0), (2, 2, 0))

    def test_solutions(self):
        for value in (((1, 1), (0, 1), (0, 1)), ((1, 2), (1, 2), (-7, 9)), ((FORTY, 1), (1 - FORTY, 1), (1, FORTY))):
            self.assertIs(is_solved(self.ROWS, (1, 2), ("solution", value)), True)
            self.assertIs(is_solved(self.ROWS, (1, 3), ("solution", value)), False)
            self.assertIs(is_solved(self.ROWS, (2, 2), ("solution", value)), False)
            self.assertIs(is_solved(self.ROWS, (1, 2), ("conflict", value)), False)

    def test_no_solutions(self):
        good = ((1, 1), (0, 1), (0, 1))
        for value in (good[:2], (*good, (0, 1)), list(good), ((1, 1), (0, 1), (0, 2)), ((2, 2), (0, 1), (0, 1)), (1, 0, 0),
                      ((1, 1), (0, 1), (0, True)), ((1, 1), [0, 1], (0, 1)), ((1, 1), (0, 1), None), ((-1, -1), (0, 1), (0, 1)),
                      ((1, 1), (0, 1), (1, 0)), ((1, 1), (1, 1), (0, 1)), ((1, 2), (0, 1), (0, 1)), (), None, 1):
            self.assertIs(is_solved(self.ROWS, (1, 2), ("solution", value)), False, value)
        for value in (("solution",), ("solution", good, good), ["solution", good], good, ("Solution", good), (good, "solution")):
            self.assertIs(is_solved(self.ROWS, (1, 2), value), False, value)

    def test_conflicts(self):
        for value in ((2, -1), (-2, 1), (2 * FORTY, -FORTY)):
            self.assertIs(is_solved(self.ROWS, (1, 3), ("conflict", value)), True)
            self.assertIs(is_solved(self.ROWS, (1, 2), ("conflict", value)), False)
            self.assertIs(is_solved(self.ROWS, (1, 3), ("solution", value)), False)

    def test_no_conflicts(self):
        for value in ((2,), (2, -1, 0), (0, 0), (1, -1), (-1, 2), [2, -1], (2, "x"), (True, -1), ((2, 1), (-1, 1)), (), None, 2):
            self.assertIs(is_solved(self.ROWS, (1, 3), ("conflict", value)), False, value)
        for value in (("conflict",), ("conflict", (2, -1), ()), ["conflict", (2, -1)], (2, -1), ("none", (2, -1))):
            self.assertIs(is_solved(self.ROWS, (1, 3), value), False, value)
        self.assertIs(is_solved(((1, 0), (1, 1)), (1, 3), ("conflict", (1, -1))), False)
        self.assertIs(is_solved(((0,),), (1,), ("conflict", (True,))), False)

    def test_kinds(self):
        self.answers(lambda value: is_solved(((1, 0), (0, 1)), (1, 2), value), lambda value: False)
        for rows, right in ((((1,),), (1,)), (((0,),), (1,))):
            for kind in ("solution", "conflict"):
                self.answers(lambda value: is_solved(rows, right, (kind, value)), lambda value: (rows, kind) == (
                    ((0,),), "conflict") and isinstance(value, tuple) and len(value) == 1
                    and value[0].__class__ is int and value != (0,))

    def test_many_denominators(self):
        chance = random.Random(8)
        x = [Fraction(chance.randint(-FORTY, FORTY), chance.randint(1, FORTY)) for _ in range(60)]
        row = [chance.randint(-FORTY, FORTY) for _ in range(59)]
        last = -sum(u * v for u, v in zip(row, x)) / 1
        x[59] = last
        value = tuple((one.numerator, one.denominator) for one in x)
        self.assertIs(is_solved(((*row, 1),), (0,), ("solution", value)), True)
        self.assertIs(is_solved(((*row, 1),), (1,), ("solution", value)), False)


if __name__ == "__main__":
    unittest.main()
