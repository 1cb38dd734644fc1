"""Tests of leastnet.seen.respect: [0.13] and [6.3]."""

import random
import unittest

from leastnet.errors import InvalidBehaviour, InvalidPlace
from leastnet.seen.behaviours import behaviour_of
from leastnet.seen.respect import is_respect_paper, least_tokens, respect_paper, respects
from helpers import FORTY, Case, same
from reference import AB, NO_BEHAVIOURS, NOTHING, TURN, TWO, allows_word, behaviours, counts, product, states, words
import reference

FILL = (0, (1, 0), (0, 1))
LOSE = (5, (0, 1), (0, 0))


def chance_place(chance, wide, most=4):
    """Return a place by chance."""
    return chance.randint(0, most), *(tuple(chance.choice((0, 0, 1, 1, 2)) for _ in range(wide)) for _ in range(2))


def change(place):
    """Return the change of a place."""
    return [given - taken for taken, given in zip(*place[1:])]


def pairs(seed, many, **more):
    """Return pairs of a behaviour and a place."""
    chance = random.Random(seed)
    return [(behaviour, chance_place(chance, len(behaviour[0]))) for behaviour in behaviours(seed, many, **more)]


def is_paper(behaviour, place, value):
    """What [6.3] calls a paper, word by word."""
    alphabet, size, edges = behaviour
    start, takes, gives = place
    if value[0] == "respects":
        numbers = value[1]
        kept = len(value) == 2 and isinstance(numbers, tuple) and len(numbers) == size
        kept = kept and all(number.__class__ is int for number in numbers) and numbers[0] <= start
        return kept and all(
            numbers[state] >= takes[alphabet.index(action)]
            and numbers[target] <= numbers[state] + change(place)[alphabet.index(action)] for state, action, target in edges
        )
    kind, run, last = value
    led = states(behaviour, run)
    if kind == "breaks":
        follows = last in alphabet and bool(states(behaviour, (*run, last)))
        seen = counts(alphabet, run)
        return follows and start + product(change(place), seen) < takes[alphabet.index(last)]
    closed = bool(last) and any(state in states(behaviour, last, (state,)) for state in led)
    return closed and product(change(place), counts(alphabet, last)) < 0


class Tokens(Case):
    def test_least_tokens(self):
        for behaviour, place in pairs(71, 150, size=4):
            alphabet, size, _ = behaviour
            found = least_tokens(behaviour, place)
            self.assertEqual(len(found), size)
            # Without falling circles the shortest words are enough; with them, longer words find less and less.
            at = {state: [] for state in range(size)}
            for word in reference.runs(behaviour, 6):
                for state in states(behaviour, word):
                    at[state].append(place[0] + product(change(place), counts(alphabet, word)))
            falling = [
                state for state in range(size) if any(
                    product(change(place), counts(alphabet, reference.word_of(circle))) < 0
                    for circle in reference.circles_at(behaviour, state))
            ]
            for state in range(size):
                before = any(state in {edge[2] for edge in path} | {one} for one in falling for path in reference.paths(behaviour, one))
                if before:
                    self.assertIsNone(found[state])
                else:
                    self.same(found[state], min(at[state]))

    def test_examples(self):
        self.same(least_tokens(TURN, FILL), (0, 1))
        self.same(least_tokens(TURN, (3, (0, 2), (0, 1))), (None, None))
        self.same(least_tokens(NOTHING, (FORTY, (1,), (0,))), (FORTY,))
        self.same(least_tokens(TWO, (1, (1, 0, 0), (0, 0, 0))), (1, 0, 1, -1, -1))
        one = behaviour_of(AB, (0, "a", 1), (1, "b", 1), (1, "a", 2))
        self.same(least_tokens(one, (0, (0, 1), (0, 0))), (0, None, None))
        self.same(least_tokens(one, (0, (0, 0), (0, 1))), (0, 0, 0))
        self.same(least_tokens((("a",), 1, ((0, "a", 0),)), (0, (FORTY,), (FORTY - 1,))), (None,))

    def test_long_lines(self):
        line = behaviour_of(AB, *[(state, "a", state + 1) for state in range(149)], (149, "b", 0))
        self.same(least_tokens(line, (0, (1, 0), (0, 149))), tuple(range(0, -150, -1)))
        self.same(least_tokens(line, (0, (1, 0), (0, 148))), (None,) * 150)
        self.assertIs(respects(line, (149, (1, 0), (0, 149))), True)
        self.assertIs(respects(line, (148, (1, 0), (0, 149))), False)
        # The edges come in the wrong order for a walk along the line.
        back = behaviour_of(AB, (0, "a", 149), *[(state, "a", state - 1) for state in range(149, 1, -1)], (1, "b", 0))
        self.same(least_tokens(back, (0, (1, 0), (0, 149)))[1], -149)
        paper = respect_paper(back, (7, (1, 0), (0, 0)))
        self.same(paper[0], "falls")
        self.assertIs(is_respect_paper(back, (7, (1, 0), (0, 0)), paper), True)

    def test_respects(self):
        for behaviour, place in pairs(72, 200):
            wanted = all(allows_word(behaviour[0], place, word) for word in reference.runs(behaviour, 6))
            if respects(behaviour, place):
                self.assertTrue(wanted)
            elif wanted:
                self.assertIsNot(respect_paper(behaviour, place)[0], "respects")
        self.assertIs(respects(TURN, FILL), True)
        self.assertIs(respects(TURN, LOSE), False)
        self.assertIs(respects(NOTHING, (0, (5,), (0,))), True)
        self.assertIs(respects(TWO, (1, (1, 1, 0), (1, 1, 0))), True)
        self.assertIs(respects(TWO, (0, (1, 1, 0), (1, 1, 0))), False)


class Papers(Case):
    def test_examples(self):
        self.same(respect_paper(TURN, FILL), ("respects", (0, 1)))
        self.same(respect_paper(TURN, (0, (0, 1), (0, 1)))[0], "breaks")
        for paper in (("breaks", (), "p"), ("breaks", ("p", "c"), "p")):
            self.assertIs(is_respect_paper(TURN, (0, (0, 1), (0, 1)), paper), True)
        self.assertIs(is_respect_paper(TURN, LOSE, ("falls", (), ("p", "c"))), True)

    def test_own_papers(self):
        found = set()
        for behaviour, place in pairs(73, 400):
            paper = respect_paper(behaviour, place)
            found.add(paper[0])
            self.assertIs(is_respect_paper(behaviour, place, paper), True)
            self.assertTrue(is_paper(behaviour, place, paper))
            self.assertIs(respects(behaviour, place), paper[0] == "respects")
            if paper[0] == "respects":
                self.same(paper[1], least_tokens(behaviour, place))
        self.assertEqual(found, {"respects", "breaks", "falls"})

    def test_all_papers_with_short_words(self):
        for behaviour, place in pairs(74, 60, size=3):
            alphabet = behaviour[0]
            for run in words(alphabet, 3):
                for action in alphabet:
                    paper = ("breaks", run, action)
                    self.assertIs(is_respect_paper(behaviour, place, paper), is_paper(behaviour, place, paper))
                for circle in words(alphabet, 3):
                    paper = ("falls", run, circle)
                    self.assertIs(is_respect_paper(behaviour, place, paper), is_paper(behaviour, place, paper))

    def test_all_numbers(self):
        chance = random.Random(75)
        accepted = 0
        for behaviour, place in pairs(76, 150, size=3):
            numbers = least_tokens(behaviour, place)
            for _ in range(30):
                near = tuple((0 if number is None else number) - chance.choice((-1, 0, 0, 0, 1)) for number in numbers)
                wanted = is_paper(behaviour, place, ("respects", near))
                accepted += wanted
                self.assertIs(is_respect_paper(behaviour, place, ("respects", near)), wanted)
        self.assertTrue(accepted > 50)

    def test_numbers_need_not_be_the_least(self):
        place = (3, (1, 0), (0, 1))
        self.same(respect_paper(TURN, place), ("respects", (3, 4)))
        for numbers in ((0, 1), (3, 4), (2, 3), (0, 1), (1, 2)):
            self.assertIs(is_respect_paper(TURN, place, ("respects", numbers)), True)
        for numbers in ((4, 5), (3, 5), (3, 3), (0, 0), (-1, 0), (0,), (0, 1, 2), (True, 2), (1, None), [0, 1], (), ("0", 1), (0, (1,))):
            self.assertIs(is_respect_paper(TURN, place, ("respects", numbers)), False, numbers)

    def test_long_papers(self):
        turn = ("p", "c") * 600
        self.assertIs(is_respect_paper(TURN, (0, (0, 1), (0, 1)), ("breaks", turn, "p")), True)
        self.assertIs(is_respect_paper(TURN, LOSE, ("falls", turn, turn)), True)
        self.assertIs(is_respect_paper(TURN, LOSE, ("breaks", turn, "p")), True)
        self.assertIs(is_respect_paper(TURN, LOSE, ("breaks", turn, "c")), False)
        self.assertIs(is_respect_paper(TURN, LOSE, ("falls", turn, turn + ("p",))), False)

    def test_any_value(self):
        for behaviour, place in ((NOTHING, (0, (1,), (0,))), ((("a",), 1, ((0, "a", 0),)), (0, (0,), (0,)))):
            self.answers(lambda value: is_respect_paper(behaviour, place, value), lambda value: same(value, ("respects", (0,))))
        loop = (("a",), 1, ((0, "a", 0),))
        right = (("breaks", (), "a"), ("falls", (), ("a",)))
        self.answers(lambda value: is_respect_paper(loop, (0, (1,), (0,)), value), lambda value: value in right)
        place = (0, (1,), (0,))
        self.answers(lambda value: is_respect_paper(loop, place, ("breaks", value, "a")), lambda value: value in ((), ("a",), ("a", "a")))
        self.answers(lambda value: is_respect_paper(loop, place, ("breaks", (), value)), lambda value: value == "a")
        self.answers(lambda value: is_respect_paper(loop, place, ("falls", value, ("a",))), lambda value: value in ((), ("a",), ("a", "a")))
        self.answers(lambda value: is_respect_paper(loop, place, ("falls", (), value)), lambda value: value in (("a",), ("a", "a")))
        self.answers(lambda value: is_respect_paper(loop, place, (value, (), "a")), lambda value: False)
        self.answers(lambda value: is_respect_paper(NOTHING, place, ("respects", value)),
                     lambda value: value in ((0,), (-1,)) and value.__class__ is tuple and value[0] is not False)
        self.assertIs(is_respect_paper(loop, place, ("lowers", (), ("a",))), False)
        self.assertIs(is_respect_paper(NOTHING, place, ("keeps", (0,))), False)
        for value in (("breaks", (), "a", 0), ("breaks", ()), ("respects", (0,), 0), ["breaks", (), "a"], ("falls", ()), ("falls", (), ("a",), 1)):
            self.assertIs(is_respect_paper(loop, place, value), False)

    def test_wrong_arguments(self):
        calls = (least_tokens, respects, respect_paper, lambda one, other: is_respect_paper(one, other, None))
        for call in calls:
            for value in NO_BEHAVIOURS:
                self.fails(InvalidBehaviour, call, value, None)
            right = lambda value: same(value, (0, (0,), (0,)))
            self.refuses(InvalidPlace, lambda value: call(NOTHING, value), right)
            self.refuses(InvalidPlace, lambda value: call((AB, 1, ()), value), lambda value: same(value, (0, (0, 0), (0, 0))))
            for place in ((0, (0,), (0,)), (0, (0, 0, 0), (0, 0, 0)), (-1, (0, 0), (0, 0)), (0, (0, 0), (0, True)), (0, (0, 0), (0,))):
                self.fails(InvalidPlace, call, TURN, place)
            wrong = [("behaviour", (AB, 2, ()), InvalidBehaviour, None), ("place", (0, (0,), (0,)), InvalidPlace, None)]
            self.ordered(call, {"behaviour": TURN, "place": FILL}, wrong)
        self.leaves(respect_paper, TWO, (1, (1, 0, 0), (0, 0, 0)))


if __name__ == "__main__":
    unittest.main()
