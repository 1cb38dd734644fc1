"""Tests of the fractions of leastnet.base.fractions."""

import random
import unittest
from fractions import Fraction
from math import gcd

from leastnet.base.fractions import blended, compared, fraction_of, is_fraction, product_of, sum_of, sum_of_all
from leastnet.errors import InvalidFraction, InvalidNumber
from helpers import FORTY, Case, kinds, same

HUGE = 7 ** 400
NO_FRACTIONS = (
    (2, 4), (0, 2), (1, 0), (0, 0), (1, -1), (-1, -2), (3, 3), (6, -4), (True, 1), (1, True), (False, 1), (0, True),
    (1,), (1, 2, 3), [1, 2], 1, "1/2", None, True, ("1", 2), (1, "2"), (1, None), ((1, 2), 3), (FORTY, FORTY), (), {1: 2},
    (HUGE, 7), (7, HUGE),
)


def pair(number):
    """Return the fraction for a Fraction."""
    return number.numerator, number.denominator


def right_fraction(value):
    """What [0.14] calls a fraction."""
    if not isinstance(value, tuple) or [one.__class__ for one in value] != [int, int]:
        return False
    return value[1] >= 1 and gcd(*value) == 1


def right_row(value):
    """A tuple of 1 to 60 integers."""
    return isinstance(value, tuple) and 1 <= len(value) <= 60 and all(one.__class__ is int for one in value)


class IsFraction(Case):
    def test_fractions(self):
        for value in ((0, 1), (1, 1), (-1, 1), (1, 2), (-3, 2), (FORTY, 1), (1, FORTY), (HUGE, 8), (-8, HUGE)):
            self.assertIs(is_fraction(value), True)
        for value in NO_FRACTIONS:
            self.assertIs(is_fraction(value), False, value)

    def test_all_small_pairs(self):
        for top in range(-7, 8):
            for below in range(-7, 8):
                wanted = below > 0 and pair(Fraction(top, below)) == (top, below)
                self.assertIs(is_fraction((top, below)), wanted)

    def test_kinds(self):
        self.answers(is_fraction, right_fraction)
        self.answers(lambda value: is_fraction((1, value)), lambda value: value.__class__ is int and value >= 1)
        self.answers(lambda value: is_fraction((value, 1)), lambda value: value.__class__ is int)


class FractionOf(Case):
    def test_ordinary(self):
        self.same(fraction_of(6, -4), (-3, 2))
        self.same(fraction_of(0, -5), (0, 1))
        self.same(fraction_of(-6, -3), (2, 1))
        self.same(fraction_of(FORTY, FORTY), (1, 1))
        self.same(fraction_of(-HUGE, 7), (-HUGE // 7, 1))
        for top in range(-8, 9):
            for below in (-6, -5, -1, 1, 2, 4, 9):
                self.same(fraction_of(top, below), pair(Fraction(top, below)))

    def test_errors(self):
        self.fails_with(InvalidNumber, "value", 0, fraction_of, 1, 0)
        for value in kinds():
            if value.__class__ is not int:
                self.fails_with(InvalidNumber, "value", value, fraction_of, value, 1)
                self.fails_with(InvalidNumber, "value", value, fraction_of, 1, value)
        for top, below in ((True, False), ("a", 0), (None, "b"), ((1, 2), 0)):
            self.fails_with(InvalidNumber, "value", top, fraction_of, top, below)


class Sums(Case):
    def test_ordinary(self):
        self.same(sum_of((1, 2), (1, 3)), (5, 6))
        self.same(sum_of(), (0, 1))
        self.same(sum_of_all(()), (0, 1))
        self.same(sum_of((-3, 2)), (-3, 2))
        self.same(sum_of((1, 2), (-1, 2)), (0, 1))
        self.same(sum_of((1, 6), (1, 6), (1, 6)), (1, 2))
        self.same(sum_of((HUGE, 2), (HUGE, 2)), (HUGE, 1))
        self.same(sum_of((1, HUGE), (6, HUGE)), (1, HUGE // 7))

    def test_chance(self):
        chance = random.Random(2)
        for size in (9, 10 ** 40, 10 ** 60):
            for _ in range(100):
                numbers = [Fraction(chance.randint(-size, size), chance.randint(1, size)) for _ in range(5)]
                fractions = tuple(pair(number) for number in numbers)
                self.same(sum_of(*fractions), pair(sum(numbers)))
                self.same(sum_of_all(fractions), pair(sum(numbers)))
                self.same(product_of(*fractions[:2]), pair(numbers[0] * numbers[1]))
                one, other = numbers[:2]
                self.same(compared(*fractions[:2]), (one > other) - (one < other))

    def test_errors(self):
        self.refuses(InvalidFraction, sum_of, right_fraction)
        self.refuses(InvalidFraction, sum_of_all, lambda value: same(value, ()) or same(value, ((1, 2), (3, 4))))
        for value in NO_FRACTIONS:
            self.fails(InvalidFraction, sum_of, value)
            self.fails(InvalidFraction, sum_of, (1, 2), value)
            self.fails(InvalidFraction, sum_of_all, ((1, 2), (1, 3), value))
        self.fails(InvalidFraction, sum_of_all, [(1, 2)])
        self.fails(InvalidFraction, sum_of_all, (1, 2))

    def test_arguments_stay(self):
        self.leaves(sum_of_all, ((1, 2), (1, 3)))
        self.leaves(blended, (((1, 2), (2, 0)),))


class Products(Case):
    def test_ordinary(self):
        self.same(product_of((2, 3), (3, 4)), (1, 2))
        self.same(product_of((-2, 3), (3, 2)), (-1, 1))
        self.same(product_of((0, 1), (3, 4)), (0, 1))
        self.same(product_of((HUGE, 2), (2, HUGE)), (1, 1))

    def test_compared(self):
        self.same(compared((1, 2), (2, 3)), -1)
        self.same(compared((2, 3), (1, 2)), 1)
        self.same(compared((-1, 2), (-1, 2)), 0)
        self.same(compared((-1, 2), (-2, 3)), 1)
        self.same(compared((HUGE + 1, HUGE), (HUGE, HUGE - 1)), -1)

    def test_errors(self):
        for call in (product_of, compared):
            for value in NO_FRACTIONS:
                self.fails(InvalidFraction, call, value, (1, 2))
                self.fails(InvalidFraction, call, (1, 2), value)
                self.fails(InvalidFraction, call, value, value)
            self.refuses(InvalidFraction, lambda value: call(value, (1, 2)), right_fraction)
            self.refuses(InvalidFraction, lambda value: call((1, 2), value), right_fraction)


class Blended(Case):
    def test_ordinary(self):
        self.same(blended((((1, 2), (2, 0)), ((1, 2), (0, 2)))), ((1, 1), (1, 1)))
        self.same(blended((((0, 1), (5,)),)), ((0, 1),))
        self.same(blended((((-1, 3), (1, 2, 3)),)), ((-1, 3), (-2, 3), (-1, 1)))
        self.same(blended((((1, 2), (1,)), ((-1, 2), (1,)))), ((0, 1),))

    def test_lengths(self):
        for length in (1, 5, 6, 59, 60):
            row = tuple(range(length))
            self.same(blended((((1, 1), row), ((2, 1), row))), tuple((3 * number, 1) for number in row))
        self.fails(InvalidFraction, blended, (((1, 1), (0,) * 61),))
        self.fails(InvalidFraction, blended, (((1, 1), ()),))
        self.fails(InvalidFraction, blended, (((1, 1), (1, 2)), ((1, 1), (1,))))
        self.fails(InvalidFraction, blended, (((1, 1), (1,)), ((1, 1), (1, 2))))

    def test_chance(self):
        chance = random.Random(3)
        for size in (5, 10 ** 40):
            for _ in range(100):
                length, many = chance.randint(1, 7), chance.randint(1, 6)
                weights = [Fraction(chance.randint(-size, size), chance.randint(1, size)) for _ in range(many)]
                rows = [tuple(chance.randint(-size, size) for _ in range(length)) for _ in range(many)]
                wanted = [sum(weight * row[at] for weight, row in zip(weights, rows)) for at in range(length)]
                pairs = tuple((pair(weight), row) for weight, row in zip(weights, rows))
                self.same(blended(pairs), tuple(pair(number) for number in wanted))

    def test_errors(self):
        self.refuses(InvalidFraction, blended, lambda value: False)
        right = (((1, 2), (3, 4)), ((1, 2), (3,)))
        self.refuses(InvalidFraction, lambda value: blended((value,)), lambda value: value in right)
        self.refuses(InvalidFraction, lambda value: blended(((value, (1,)),)), right_fraction)
        self.refuses(InvalidFraction, lambda value: blended((((1, 2), value),)), right_row)
        self.refuses(InvalidFraction, lambda value: blended((((1, 2), (1, value)),)), lambda value: value.__class__ is int)
        for value in ([((1, 2), (1,))], (((1, 2), [1]),), (((1, 2), (1,), 1),), (((1, 2),),), ((1, 2), (1,)), ([(1, 2), (1,)],)):
            self.fails(InvalidFraction, blended, value)
        for value in NO_FRACTIONS:
            self.fails(InvalidFraction, blended, (((1, 2), (1,)), (value, (1,))))


if __name__ == "__main__":
    unittest.main()
