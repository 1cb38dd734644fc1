"""Tests of leastnet.nets.places."""

import random
import unittest
from math import gcd

from leastnet.base.words import make_alphabet
from leastnet.errors import InvalidAlphabet, InvalidNumber, InvalidPlace, InvalidVector, InvalidWord, UnknownName
from leastnet.nets.places import allows_step, change_of, divided, first_barred, is_place, is_plain, make_place
from leastnet.nets.places import multiple, sum_of_places, tokens
from helpers import FORTY, Case, kinds, same

A = ("a",)
ABX = make_alphabet("x", "a", "b")
FIVE = ("a", "b", "c", "d", "e")
ONES = (A, ("solution",))  # the alphabets among the kinds
MUTEX = (1, (1, 1, 0), (0, 0, 1))
BIG = (FORTY, (FORTY,) * 5, (0, 1, 2, 3, FORTY))
PLACES = ((0, (0,), (0,)), (3, (1,), (2,)), (0, (1, 0), (0, 1)), MUTEX, (5, (1, 2, 3, 4), (4, 3, 2, 1)), BIG)
NO_PLACES = (
    (-1, (0,), (0,)), (0, (-1,), (0,)), (0, (0,), (-1,)), (True, (0,), (0,)), (0, (True,), (0,)), (0, (0,), (False,)),
    (None, (0,), (0,)), ("0", (0,), (0,)), ((0,), (0,), (0,)), (0, (0,)), (0, (0,), (0,), (0,)), [0, (0,), (0,)],
    (0, [0], (0,)), (0, (0,), [0]), (0, (0, 0), (0,)), (0, (0,), (0, 0)), (0, (), ()), (0, (0,) * 6, (0,) * 6),
    (0, 0, 0), (0, None, (0,)), (0, (0,), None), (0, ("a",), (0,)), (0, {"a": 1}, {}), (), None, True, 0, "a", {}, ((0,), (0,)),
    ((0,), 0, (0,)), (0, (0,), ((0,),)), ((0, (0,), (0,)),),
)


def right_place(value):
    """The places among the kinds."""
    return same(value, (0, (0,), (0,))) or same(value, (0, (0, 0), (0, 0)))


def is_number(value):
    """An integer of at least 0."""
    return value.__class__ is int and value >= 0


def chance_place(chance, length, most=4):
    """Return a place of an alphabet with so many actions."""
    return chance.randint(0, most), *(tuple(chance.randint(0, most) for _ in range(length)) for _ in range(2))


class IsPlace(Case):
    def test_places(self):
        for place in PLACES:
            for many in range(1, 6):
                self.assertIs(is_place(FIVE[:many], place), many == len(place[1]))

    def test_no_places(self):
        for value in NO_PLACES:
            for many in range(1, 6):
                self.assertIs(is_place(FIVE[:many], value), False, value)
        self.answers(lambda value: is_place(A, value), lambda value: same(value, (0, (0,), (0,))))
        self.answers(lambda value: is_place(("a", "b"), value), lambda value: same(value, (0, (0, 0), (0, 0))))
        self.answers(lambda value: is_place(A, (value, (0,), (0,))), is_number)
        self.answers(lambda value: is_place(A, (0, (value,), (0,))), is_number)
        self.answers(lambda value: is_place(A, (0, (0,), (value,))), is_number)
        self.answers(lambda value: is_place(A, (0, value, (0,))), lambda value: same(value, (1,)) or same(value, (0,)))
        self.answers(lambda value: is_place(A, (0, (0,), value)), lambda value: same(value, (1,)) or same(value, (0,)))

    def test_alphabet(self):
        self.refuses(InvalidAlphabet, lambda value: is_place(value, None), lambda value: value in ONES)
        self.refuses(InvalidAlphabet, lambda value: is_place(value, (0, (0,), (0,))), lambda value: value in ONES)


class OfAnyAlphabet(Case):
    def test_plain(self):
        self.assertIs(is_plain(MUTEX), True)
        self.assertIs(is_plain((0, (0,), (0,))), True)
        self.assertIs(is_plain((0, (1,), (1,))), False)
        self.assertIs(is_plain((0, (1, 0, 0, 0, 5), (0, 1, 1, 1, 1))), False)
        self.assertIs(is_plain((9, (2, 0), (0, 2))), True)
        self.assertIs(is_plain(BIG), False)

    def test_change(self):
        self.same(change_of(MUTEX), (-1, -1, 1))
        self.same(change_of((7, (5,), (5,))), (0,))
        self.same(change_of(BIG), (-FORTY, 1 - FORTY, 2 - FORTY, 3 - FORTY, 0))

    def test_tokens(self):
        self.same(tokens(MUTEX, (2, 0, 0)), -1)
        self.same(tokens(MUTEX, (0, 0, 0)), 1)
        self.same(tokens((3, (1,), (3,)), (10,)), 23)
        self.same(tokens(BIG, (FORTY, 0, 0, 0, FORTY)), FORTY - FORTY * FORTY)

    def test_chance(self):
        chance = random.Random(9)
        for _ in range(300):
            length = chance.randint(1, 5)
            place = chance_place(chance, length)
            counts = tuple(chance.randint(0, 5) for _ in range(length))
            start, takes, gives = place
            change = tuple(given - taken for taken, given in zip(takes, gives))
            self.same(change_of(place), change)
            self.same(tokens(place, counts), start + sum(x * y for x, y in zip(change, counts)))
            self.same(is_plain(place), all(taken * given == 0 for taken, given in zip(takes, gives)))
            alphabet = FIVE[:length]
            for action, taken in zip(alphabet, takes):
                self.same(allows_step(alphabet, place, counts, action), tokens(place, counts) >= taken)

    def test_wrong_places(self):
        for call in (is_plain, change_of, divided, sum_of_places, lambda value: tokens(value, (0,) * len(value[1]))):
            for place in PLACES:
                call(place)
        for call in (is_plain, change_of, divided, sum_of_places, lambda value: tokens(value, None)):
            for value in NO_PLACES:
                self.fails(InvalidPlace, call, value)
        for call in (is_plain, change_of, divided, sum_of_places):
            self.refuses(InvalidPlace, call, right_place)

    def test_wrong_counts(self):
        place = (0, (0,), (0,))
        self.refuses(InvalidVector, lambda value: tokens(place, value), lambda value: same(value, (1,)) or same(value, (0,)))
        for counts in ((1, 1), (1, 1, 1, 1), (1, 1, -1), (1, 1, True), [1, 1, 1], (), None):
            self.fails(InvalidVector, tokens, MUTEX, counts)
        wrong = [("place", (0, (0,), (-1,)), InvalidPlace, None), ("counts", (1, 1), InvalidVector, None)]
        self.ordered(tokens, {"place": MUTEX, "counts": (1, 1, 1)}, wrong)


class MakePlace(Case):
    def test_ordinary(self):
        self.same(make_place(ABX, start=1, takes={"a": 1, "b": 1}, gives={"x": 1}), MUTEX)
        self.same(make_place(ABX), (0, (0, 0, 0), (0, 0, 0)))
        self.same(make_place(A, gives={"a": 2}), (0, (0,), (2,)))
        self.same(make_place(A, takes={"a": 2}), (0, (2,), (0,)))
        self.same(make_place(A, takes={}, gives=None, start=FORTY), (FORTY, (0,), (0,)))
        self.same(make_place(ABX, gives={"x": 0, "b": FORTY}, takes={"x": 4, "a": 0}), (0, (0, 0, 4), (0, FORTY, 0)))
        self.same(make_place(FIVE, takes=dict(zip(FIVE[::-1], range(5)))), (0, (4, 3, 2, 1, 0), (0,) * 5))

    def test_arguments_stay(self):
        takes, gives = {"x": 4, "a": 0}, {"b": 1}
        self.leaves(make_place, ABX, start=2, takes=takes, gives=gives)
        self.same((takes, gives), ({"x": 4, "a": 0}, {"b": 1}))
        place = make_place(ABX, takes=takes)
        takes["b"] = 7
        self.same(place, (0, (0, 0, 4), (0, 0, 0)))

    def test_by_keyword_alone(self):
        with self.assertRaises(TypeError):
            make_place(ABX, 1)

    def test_wrong_alphabet(self):
        self.refuses(InvalidAlphabet, lambda value: make_place(value, start=0), lambda value: value in ONES)
        for start, numbers in ((True, None), (0, 5), (-1, {"z": -1})):
            self.fails(InvalidAlphabet, make_place, ("b", "a"), start=start, takes=numbers, gives=numbers)

    def test_wrong_start(self):
        for value in kinds():
            if is_number(value):
                self.same(make_place(A, start=value), (value, (0,), (0,)))
            else:
                self.fails_with(InvalidNumber, "value", value, make_place, A, start=value)
                for numbers in (5, {"z": 1}, {"a": -7}):
                    self.fails_with(InvalidNumber, "value", value, make_place, A, start=value, takes=numbers, gives=numbers)

    def test_wrong_dicts(self):
        for name in ("takes", "gives"):
            for value in kinds():
                if value is None or value == {} or value == {"a": 1}:
                    make_place(A, **{name: value})
                elif not isinstance(value, dict):
                    self.fails(InvalidPlace, make_place, A, **{name: value})

    def test_wrong_keys(self):
        for name in ("takes", "gives"):
            for key in ("b", "", "A", 1, 0, True, None, (), ("a",), (1, (2, "a"))):
                self.fails_with(UnknownName, "name", key, make_place, A, **{name: {key: 1}})
                self.fails_with(UnknownName, "name", key, make_place, A, **{name: {"a": -1, key: 1, "z": 1}})
            self.fails_with(UnknownName, "name", "z", make_place, ABX, **{name: {"x": 1, "z": 1, "c": 1, "a": 1}})
            self.fails_with(UnknownName, "name", "c", make_place, ABX, **{name: {"c": 1, "z": 1}})

    def test_wrong_numbers(self):
        for name in ("takes", "gives"):
            for value in kinds():
                if not is_number(value):
                    self.fails_with(InvalidNumber, "value", value, make_place, ABX, **{name: {"b": 0, "a": value, "x": -9}})
            self.fails_with(InvalidNumber, "value", -9, make_place, ABX, **{name: {"x": -9, "a": -8}})

    def test_takes_before_gives(self):
        for takes, error, attribute, value in (([], InvalidPlace, None, None), ({"z": 1}, UnknownName, "name", "z"),
                                               ({"a": -1}, InvalidNumber, "value", -1)):
            for gives in (7, {"y": 1}, {"b": -2}):
                found = self.fails(error, make_place, ABX, takes=takes, gives=gives)
                self.assertTrue(attribute is None or same(getattr(found, attribute), value))


class Steps(Case):
    def test_allows_step(self):
        self.assertIs(allows_step(ABX, MUTEX, (0, 0, 5), "a"), True)
        self.assertIs(allows_step(ABX, MUTEX, (1, 0, 0), "a"), False)
        self.assertIs(allows_step(ABX, MUTEX, (1, 0, 0), "x"), True)
        self.assertIs(allows_step(ABX, MUTEX, (2, 0, 0), "x"), False)
        self.assertIs(allows_step(A, (2, (2,), (2,)), (FORTY,), "a"), True)
        self.assertIs(allows_step(A, (1, (2,), (2,)), (FORTY,), "a"), False)
        self.assertIs(allows_step(("a", "b"), (2, (3, 2), (0, 0)), (0, 0), "a"), False)
        self.assertIs(allows_step(("a", "b"), (2, (3, 2), (0, 0)), (0, 0), "b"), True)

    def test_first_barred(self):
        self.same(first_barred(ABX, MUTEX, ("a", "x", "b", "a")), 3)
        self.same(first_barred(ABX, MUTEX, ("a", "x", "b", "x")), None)
        self.same(first_barred(ABX, MUTEX, ()), None)
        self.same(first_barred(A, (0, (1,), (5,)), ("a",)), 0)
        self.same(first_barred(A, (199, (1,), (0,)), ("a",) * 200), 199)
        self.same(first_barred(A, (200, (1,), (0,)), ("a",) * 200), None)
        self.same(first_barred(A, (1, (1,), (1,)), ("a",) * 200), None)

    def test_chance(self):
        chance = random.Random(10)
        barred = 0
        for _ in range(300):
            place = chance_place(chance, 3, 3)
            word = tuple(chance.choice(ABX) for _ in range(chance.randint(0, 6)))
            steps = [(tuple(word[:at].count(action) for action in ABX), word[at]) for at in range(len(word))]
            wrong = [at for at, (counts, action) in enumerate(steps) if not allows_step(ABX, place, counts, action)]
            self.same(first_barred(ABX, place, word), wrong[0] if wrong else None)
            barred += len(wrong) > 0
        self.assertTrue(100 < barred < 300)

    def test_wrong_steps(self):
        wrong = [("alphabet", ("x", "a"), InvalidAlphabet, None), ("place", (1, (1, 1), (0, 0)), InvalidPlace, None),
                 ("counts", (1, 1), InvalidVector, None), ("action", "y", UnknownName, "name")]
        self.ordered(allows_step, {"alphabet": ABX, "place": MUTEX, "counts": (1, 1, 1), "action": "a"}, wrong)
        for value in kinds():
            if value not in ("a", "b", "x"):
                self.fails_with(UnknownName, "name", value, allows_step, ABX, MUTEX, (0, 0, 0), value)
        self.refuses(InvalidVector, lambda value: allows_step(A, (0, (0,), (0,)), value, "a"),
                     lambda value: same(value, (1,)) or same(value, (0,)))
        self.refuses(InvalidPlace, lambda value: allows_step(A, value, (0,), "a"), lambda value: same(value, (0, (0,), (0,))))
        for value in kinds():
            if value not in ONES:
                self.fails(InvalidAlphabet, allows_step, value, (0, (0,), (0,)), (0,), "a")
                self.fails(InvalidAlphabet, first_barred, value, (0, (0,), (0,)), ())

    def test_wrong_words(self):
        wrong = [("alphabet", ("x", "a"), InvalidAlphabet, None), ("place", (1, (1, 1), (0, 0)), InvalidPlace, None),
                 ("word", ("c",), InvalidWord, None)]
        self.ordered(first_barred, {"alphabet": ABX, "place": MUTEX, "word": ("a", "b")}, wrong)
        self.fails(InvalidWord, first_barred, A, (0, (0,), (0,)), ("a",) * 201)
        self.fails(InvalidWord, first_barred, A, (0, (1,), (0,)), ("a",) * 201)
        self.fails(InvalidWord, first_barred, ABX, MUTEX, ("a", "a", "c"))
        self.refuses(InvalidWord, lambda value: first_barred(A, (0, (0,), (0,)), value),
                     lambda value: value in ((), ("a",), ("a", "a")))
        for value in NO_PLACES:
            self.fails(InvalidPlace, first_barred, A, value, ())
            self.fails(InvalidPlace, allows_step, A, value, (0,), "a")


class Multiples(Case):
    def test_multiple(self):
        self.same(multiple(3, MUTEX), (3, (3, 3, 0), (0, 0, 3)))
        self.same(multiple(1, BIG), BIG)
        self.same(multiple(FORTY, (FORTY, (0,), (1,))), (FORTY * FORTY, (0,), (FORTY,)))

    def test_divided(self):
        self.same(divided((6, (4, 2), (0, 8))), (3, (2, 1), (0, 4)))
        self.same(divided((6, (9,), (4,))), (6, (9,), (4,)))
        self.same(divided((0, (0, 0), (0, 0))), (0, (0, 0), (0, 0)))
        self.same(divided((0, (0, 5), (0, 0))), (0, (0, 1), (0, 0)))
        self.same(divided((5, (0, 0), (0, 0))), (1, (0, 0), (0, 0)))
        self.same(divided((FORTY, (FORTY,), (0,))), (1, (1,), (0,)))
        self.same(divided((2, (4,), (3,))), (2, (4,), (3,)))

    def test_sums(self):
        self.same(sum_of_places(MUTEX), MUTEX)
        self.same(sum_of_places(MUTEX, (2, (0, 1, 0), (1, 0, 0))), (3, (1, 2, 0), (1, 0, 1)))
        self.same(sum_of_places((1, (2,), (3,)), (4, (5,), (6,)), (7, (8,), (9,))), (12, (15,), (18,)))

    def test_chance(self):
        chance = random.Random(11)
        more = 0
        for _ in range(200):
            length = chance.randint(1, 5)
            alphabet = FIVE[:length]
            places = [chance_place(chance, length) for _ in range(chance.randint(1, 4))]
            total = sum_of_places(*places)
            columns = [sum(column) for column in zip(*((start, *takes, *gives) for start, takes, gives in places))]
            self.same(total, (columns[0], tuple(columns[1:length + 1]), tuple(columns[length + 1:])))
            number = chance.randint(1, 6)
            large = multiple(number, places[0])
            divisor = gcd(large[0], *large[1], *large[2]) or 1
            self.same(multiple(divisor, divided(large)), large)
            self.assertIn(gcd(divided(large)[0], *divided(large)[1], *divided(large)[2]), (0, 1))
            counts = tuple(chance.randint(0, 4) for _ in alphabet)
            for action in alphabet:
                step = counts, action
                self.same(allows_step(alphabet, large, *step), allows_step(alphabet, places[0], *step))
                self.same(allows_step(alphabet, divided(large), *step), allows_step(alphabet, places[0], *step))
                if all(allows_step(alphabet, place, *step) for place in places):
                    self.assertIs(allows_step(alphabet, total, *step), True)
                else:
                    more += allows_step(alphabet, total, *step)
        self.assertTrue(more > 0)

    def test_wrong_numbers(self):
        for value in kinds():
            if is_number(value) and value > 0:
                multiple(value, MUTEX)
            else:
                self.fails_with(InvalidNumber, "value", value, multiple, value, MUTEX)
        wrong = [("number", 0, InvalidNumber, "value"), ("place", (0, (0,), (0, 0)), InvalidPlace, None)]
        self.ordered(multiple, {"number": 2, "place": MUTEX}, wrong)
        for value in NO_PLACES:
            self.fails(InvalidPlace, multiple, 1, value)

    def test_wrong_places(self):
        self.fails(InvalidPlace, sum_of_places, MUTEX, (0, (0,), (0,)))
        self.fails(InvalidPlace, sum_of_places, MUTEX, MUTEX, (0, (0, 0), (0, 0)))
        for value in NO_PLACES:
            self.fails(InvalidPlace, sum_of_places, value, (0, (0,), (0,)))
            self.fails(InvalidPlace, sum_of_places, (0, (0,), (0,)), value)
            self.fails(InvalidPlace, sum_of_places, (0, (0,), (0,)), (0, (0,), (0,)), value)

    def test_arguments_stay(self):
        self.leaves(divided, (6, (4, 2), (0, 8)))
        self.leaves(sum_of_places, MUTEX, MUTEX)
        self.leaves(multiple, 2, MUTEX)


if __name__ == "__main__":
    unittest.main()
