"""Tests of leastnet.base.words."""

import itertools
import random
import types
import unittest

from leastnet.base import words
from leastnet.base.words import alphabet_from, count_words, counts_of, dot, is_alphabet, is_vector, is_word
from leastnet.base.words import make_alphabet, minus, plus, times, words_with
from leastnet.errors import InvalidAlphabet, InvalidNumber, InvalidVector, InvalidWord, TooMany
from helpers import FORTY, Case, kinds, same

ABX = ("a", "b", "x")
CP = ("c", "p")
FIVE = ("a", "aa", "ab", "b", "zzzzzzzz")
ONES = (("a",), ("solution",))  # the alphabets among the kinds
ALPHABETS = (("a",), ("b",), ("abcdefgh",), ABX, CP, FIVE)
NO_ALPHABETS = (
    (), ("b", "a"), ("a", "a"), ("a", "b", "b"), ("a", "b", "c", "d", "e", "f"), ["a"], "a", "ab", {"a": 1}, None, True,
    ("",), ("A",), ("aB",), ("abcdefghi",), ("a1",), ("a b",), ("a\n",), ("\u00e9",), ("\u0430",), ("a", 1), (1,),
    ("a", None), (True,), (("a",),), (["a"],), ("a", ["b"]), ("a_",), (" a",), ("\u00aa",), ("\ud800",),
)


def is_integer(value):
    """What [0.1] calls an integer."""
    return value.__class__ is int


def right_vector(value):
    """What [0.9] calls a vector."""
    return isinstance(value, tuple) and len(value) in (1, 2, 3, 4, 5) and all(is_integer(one) for one in value)


class Constants(Case):
    def test_constants(self):
        self.same((words.MAX_ACTIONS, words.MAX_WORD), (5, 200))


class Alphabets(Case):
    def test_is_alphabet(self):
        for value in ALPHABETS:
            self.assertIs(is_alphabet(value), True)
        for value in NO_ALPHABETS:
            self.assertIs(is_alphabet(value), False, value)
        self.answers(is_alphabet, lambda value: value in ONES)

    def test_every_letter(self):
        for letter in "abcdefghijklmnopqrstuvwxyz":
            self.assertIs(is_alphabet((letter,)), True)
        for code in [*range(0, 97), *range(123, 400)]:
            self.assertIs(is_alphabet((chr(code),)), False, code)
            self.assertIs(is_alphabet(("a" + chr(code),)), False, code)

    def test_any_order_and_repeated(self):
        for alphabet in ALPHABETS:
            for actions in itertools.permutations(alphabet):
                self.same(make_alphabet(*actions), alphabet)
                self.same(alphabet_from(actions), alphabet)
                self.same(make_alphabet(*actions, *actions), alphabet)
                self.same(alphabet_from(actions * 3), alphabet)
        self.same(make_alphabet("x", "a", "b"), ABX)

    def test_no_alphabet(self):
        wrong = [value for value in NO_ALPHABETS if isinstance(value, tuple) and value not in (("b", "a"), ("a", "a"))]
        for value in wrong:
            if value != ("a", "b", "b"):
                self.fails(InvalidAlphabet, make_alphabet, *value)
                self.fails(InvalidAlphabet, alphabet_from, value)
        self.fails(InvalidAlphabet, make_alphabet)
        self.same(make_alphabet("e", "d", "c", "b", "a"), ("a", "b", "c", "d", "e"))

    def test_kinds(self):
        is_one = {"a": True, "ab": True, "abcdefgh": True, "solution": True}
        self.refuses(InvalidAlphabet, make_alphabet, lambda value: isinstance(value, str) and value in is_one)
        self.refuses(InvalidAlphabet, alphabet_from, lambda value: value in (*ONES, ("b", "a"), ("a", "a"), ("drop", "a")))
        for value in kinds():
            if not (isinstance(value, str) and value in is_one):
                self.fails(InvalidAlphabet, make_alphabet, "a", value)
                self.fails(InvalidAlphabet, alphabet_from, (value, "a"))


class Words(Case):
    def test_is_word(self):
        for word in ((), ("a",), ("x", "a", "a"), ("b",) * 200, ("b",) * 201, ("x", "b") * 1000):
            self.assertIs(is_word(ABX, word), True)
        for word in (("c",), ("a", "c"), ("a", 1), ("a", None), ("a", ("a",)), ("a", ["a"]), ["a"], "a", "ab", None, 0):
            self.assertIs(is_word(ABX, word), False, word)
        self.answers(lambda value: is_word(("a",), value), lambda value: value in ((), ("a",), ("a", "a")))

    def test_is_word_alphabet(self):
        for value in NO_ALPHABETS:
            self.fails(InvalidAlphabet, is_word, value, ())
            self.fails(InvalidAlphabet, is_word, value, None)
        self.refuses(InvalidAlphabet, lambda value: is_word(value, ()), lambda value: value in ONES)

    def test_counts(self):
        self.same(counts_of(ABX, ("a", "x", "a")), (2, 0, 1))
        self.same(counts_of(ABX, ()), (0, 0, 0))
        self.same(counts_of(("a",), ("a",) * 200), (200,))
        self.same(counts_of(FIVE, ("zzzzzzzz", "aa", "aa", "a")), (1, 2, 0, 0, 1))

    def test_counts_of_wrong_words(self):
        self.same(counts_of(ABX, ("a",) * 100 + ("b",) * 100), (100, 100, 0))
        self.fails(InvalidWord, counts_of, ABX, ("a",) * 100 + ("b",) * 101)
        self.fails(InvalidWord, counts_of, ABX, ("a",) * 201)
        self.refuses(InvalidWord, lambda value: counts_of(("a",), value), lambda value: value in ((), ("a",), ("a", "a")))
        self.refuses(InvalidAlphabet, lambda value: counts_of(value, ()), lambda value: value in ONES)
        wrong = [("alphabet", ["a"], InvalidAlphabet, None), ("word", ("c",), InvalidWord, None)]
        self.ordered(counts_of, {"alphabet": ABX, "word": ("a",)}, wrong)

    def test_arguments_stay(self):
        self.leaves(counts_of, ABX, ("a", "b"))
        self.leaves(make_alphabet, "b", "a")


class Vectors(Case):
    def test_is_vector(self):
        for value in ((0,), (1, -2), (1, 2, 3, 4, 5), (FORTY,) * 5, (-FORTY,)):
            self.assertIs(is_vector(value), True)
        for value in ((), (1,) * 6, (True,), (1, False), [1], (1, "2"), (1, None), ((1,),), 1, None):
            self.assertIs(is_vector(value), False, value)
        self.answers(is_vector, right_vector)

    def test_ordinary(self):
        self.same(plus((1, 0, 2), (0, -1, 1)), (1, -1, 3))
        self.same(plus((1, -2)), (1, -2))
        self.same(plus((1,), (2,), (3,), (-10,)), (-4,))
        self.same(minus((1, 2), (3, -4)), (-2, 6))
        self.same(times(3, (1, -2)), (3, -6))
        self.same(times(0, (1, -2, FORTY)), (0, 0, 0))
        self.same(times(-FORTY, (FORTY,)), (-FORTY * FORTY,))
        self.same(dot((1, 2, 3), (1, 0, -1)), -2)
        self.same(dot((FORTY, FORTY), (FORTY, FORTY)), 2 * FORTY * FORTY)

    def test_against_sums(self):
        chance = random.Random(1)
        for _ in range(300):
            length = chance.randint(1, 5)
            vectors = [tuple(chance.randint(-9, 9) for _ in range(length)) for _ in range(chance.randint(1, 5))]
            self.same(plus(*vectors), tuple(sum(column) for column in zip(*vectors)))
            one, other = vectors[0], vectors[-1]
            self.same(minus(one, other), tuple(x - y for x, y in zip(one, other)))
            self.same(dot(one, other), sum(x * y for x, y in zip(one, other)))
            self.same(times(other[0], one), tuple(other[0] * x for x in one))

    def test_wrong_vectors(self):
        for call in (plus, minus, dot):
            for value in kinds():
                if not right_vector(value):
                    self.fails(InvalidVector, call, value, (1,))
                    self.fails(InvalidVector, call, (1,), value)
                    self.fails(InvalidVector, call, value, value)
            self.fails(InvalidVector, call, (1, 2), (1,))
            self.fails(InvalidVector, call, (1,), (1, 2))
        self.fails(InvalidVector, plus, (1, 2), (3, 4), (5,))
        self.fails(InvalidVector, plus, (1, 2), (3, 4), (5, True))
        self.fails(InvalidVector, plus, [1])
        self.refuses(InvalidVector, plus, right_vector)
        self.refuses(InvalidVector, lambda value: times(2, value), right_vector)

    def test_wrong_numbers(self):
        for value in kinds():
            if not is_integer(value):
                self.fails_with(InvalidNumber, "value", value, times, value, (1,))
        wrong = [("number", True, InvalidNumber, "value"), ("vector", (), InvalidVector, None)]
        self.ordered(times, {"number": 2, "vector": (1,)}, wrong)

    def test_arguments_stay(self):
        self.leaves(plus, (1, 2), (3, 4))
        self.leaves(minus, (1, 2), (3, 4))
        self.leaves(times, 2, (3, 4))


class Arrangements(Case):
    def test_ordinary(self):
        self.same(list(words_with(CP, (1, 2))), [("c", "p", "p"), ("p", "c", "p"), ("p", "p", "c")])
        self.same(list(words_with(("a",), (3,))), [("a", "a", "a")])
        self.same(count_words(("a",), (3,)), 1)

    def test_nothing_counted(self):
        for alphabet in ALPHABETS:
            self.same(list(words_with(alphabet, (0,) * len(alphabet))), [()])
            self.same(count_words(alphabet, (0,) * len(alphabet)), 1)

    def test_all_small_counts(self):
        for alphabet in (("a",), CP, ABX, FIVE):
            for counts in itertools.product(range(4 if len(alphabet) < 4 else 2), repeat=len(alphabet)):
                actions = [action for action, many in zip(alphabet, counts) for _ in range(many)]
                wanted = sorted(set(itertools.permutations(actions))) if len(actions) < 8 else None
                found = list(words_with(alphabet, counts))
                self.assertEqual(len(found), count_words(alphabet, counts))
                self.assertTrue(wanted is None or same(found, wanted))
                self.assertTrue(all(one < other for one, other in zip(found, found[1:])))
                self.assertTrue(all(counts_of(alphabet, word) == counts for word in found))

    def test_a_generator(self):
        self.assertIsInstance(words_with(CP, (1, 1)), types.GeneratorType)
        found = words_with(CP, (1, 1))
        self.assertIs(iter(found), found)
        self.same([next(found), next(found)], [("c", "p"), ("p", "c")])
        with self.assertRaises(StopIteration):
            next(found)

    def test_first_words_of_very_many(self):
        found = words_with(FIVE, (40, 40, 40, 40, 40))
        first = tuple(action for action in FIVE for _ in range(40))
        self.same(next(found), first)
        self.same(next(found), first[:159] + ("zzzzzzzz", "b") + first[161:])
        self.same(next(found), first[:159] + ("zzzzzzzz", "zzzzzzzz", "b") + first[162:])
        self.same(sum(1 for _ in itertools.islice(found, 5000)), 5000)

    def test_count_of_very_many(self):
        self.assertTrue(count_words(CP, (100, 100)) > 10 ** 58)
        ways = 1
        for number in range(1, 101):
            ways = ways * (100 + number) // number
        self.same(count_words(CP, (100, 100)), ways)
        self.same(count_words(CP, (199, 1)), 200)
        self.same(count_words(FIVE, (0, 200, 0, 0, 0)), 1)

    def test_too_many(self):
        for call in (count_words, lambda *args: next(words_with(*args))):
            call(ABX, (200, 0, 0))
            call(ABX, (66, 67, 67))
            for counts in ((201, 0, 0), (0, 0, 201), (67, 67, 67), (FORTY, FORTY, FORTY)):
                self.fails_with(TooMany, "limit", 200, call, ABX, counts)

    def test_wrong_arguments(self):
        for call in (count_words, lambda *args: next(words_with(*args))):
            wrong = [("alphabet", ("b", "a"), InvalidAlphabet, None), ("counts", (1, -1), InvalidVector, None)]
            self.ordered(call, {"alphabet": CP, "counts": (1, 1)}, wrong)
            wrong = [("alphabet", "ab", InvalidAlphabet, None), ("counts", (201, 0), TooMany, None)]
            self.ordered(call, {"alphabet": CP, "counts": (1, 1)}, wrong)
            for counts in ((1,), (1, 1, 1), (1, True), [1, 1], (201, -1), (-1, 0), (201, 1, 1), (FORTY, None)):
                self.fails(InvalidVector, call, CP, counts)
            self.refuses(InvalidAlphabet, lambda value: call(value, (1,)), lambda value: value in ONES)
            self.refuses(InvalidVector, lambda value: call(("a",), value), lambda value: same(value, (1,)) or same(value, (0,)))

    def test_errors_wait(self):
        found = words_with(None, None)
        self.fails(InvalidAlphabet, next, found)
        self.fails(InvalidVector, next, words_with(CP, None))
        self.fails_with(TooMany, "limit", 200, next, words_with(CP, (200, 1)))


if __name__ == "__main__":
    unittest.main()
