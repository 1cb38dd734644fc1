"""Tests of leastnet.steps.steps: [0.13] to [0.17], [9.1] to [9.3]."""

import random
import time
import unittest
from fractions import Fraction

from leastnet.errors import Avoidable, InvalidBehaviour, InvalidNumber, InvalidOperation, InvalidVector, InvalidWord, TooMany
from leastnet.errors import UnknownName
from leastnet.seen.behaviours import behaviour_of, log_of
from leastnet.seen.circles import points_of
from leastnet.seen.respect import respects
from leastnet.steps.steps import is_step_paper, is_unavoidable, is_unavoidable_step, is_word_paper, place_of_bound, step_paper
from leastnet.steps.steps import unavoidable_followers, word_paper
from helpers import FORTY, Case, kinds, same
from reference import AB, ABX, FIVE, NO_BEHAVIOURS, NOTHING, TURN, TWO, allows, allows_word, behaviours, counts, inside, is_int
from reference import product, states
from test_simplex import chance_vectors, is_fraction
import reference

LOOP = (("a",), 1, ((0, "a", 0),))
HALVES = ((((1, 2), ("a", "a")), ((1, 2), ("b", "b"))), ())
MANY = behaviour_of(FIVE, *[(state, action, state + 1) for state in range(9) for action in FIVE])  # too many paths
FILL = (0, (1, 0), (0, 1))


def is_mixture(behaviour, x, action, value):
    """What [0.14] calls a mixture of a step."""
    if not isinstance(value, tuple) or len(value) != 2 or not all(isinstance(one, tuple) for one in value) or not value[0]:
        return False
    alphabet = behaviour[0]
    total = [Fraction(0)] * len(alphabet)
    weights = Fraction(0)
    for weight, run in value[0]:
        if not is_fraction(weight) or weight[0] <= 0 or not states(behaviour, (*run, action)):
            return False
        weights += Fraction(*weight)
        total = [one + Fraction(*weight) * many for one, many in zip(total, counts(alphabet, run))]
    for multiple, run, circle in value[1]:
        closed = circle and any(state in states(behaviour, circle, (state,)) for state in states(behaviour, run))
        if not is_fraction(multiple) or multiple[0] <= 0 or not closed:
            return False
        total = [one + Fraction(*multiple) * many for one, many in zip(total, counts(alphabet, circle))]
    return weights == 1 and total == list(x)


def bars(behaviour, x, action, place):
    """Tell whether the place respects the behaviour and does not allow the step."""
    return respects(behaviour, place) and not allows(place, x, behaviour[0].index(action))


def is_paper(behaviour, x, action, value):
    """What [0.15] calls a step paper."""
    if value[0] == "place":
        return bars(behaviour, x, action, value[1])
    return is_mixture(behaviour, x, action, value[1])


def chance_steps(seed, many, **more):
    """Return triples of a behaviour, counts and an action."""
    chance = random.Random(seed)
    return [
        (behaviour, chance_vectors(chance, 1, len(behaviour[0]), 3)[0], chance.choice(behaviour[0]))
        for behaviour in behaviours(seed, many, **more)
    ]


class Steps(Case):
    def test_examples(self):
        self.same(is_step_paper(TWO, (1, 1, 0), "x", ("mixture", HALVES)), True)
        found = [is_unavoidable_step(TWO, (1, 1, 0), "x"), is_unavoidable(TWO, ("a", "b", "x")), place_of_bound(TURN, "p", (1, -1), 0)]
        self.same(found, [True, False, (0, (1, 0), (0, 1))])
        self.same(is_unavoidable_step(TWO, (1, 0, 0), "b"), False)
        self.same(is_unavoidable_step(TURN, (3, 3), "p"), True)
        self.same(is_unavoidable_step(TURN, (3, 4), "c"), True)
        self.same(is_unavoidable_step(TURN, (3, 4), "p"), False)

    def test_exactly_one_kind(self):
        found = {"place": 0, "mixture": 0}
        for behaviour, x, action in chance_steps(111, 500):
            points, rays = reference.points_of(behaviour, action), reference.rays(behaviour)
            paper = step_paper(behaviour, x, action)
            found[paper[0]] += 1
            self.assertTrue(is_paper(behaviour, x, action, paper), (behaviour, x, action, paper))
            self.assertIs(is_step_paper(behaviour, x, action, paper), True)
            wanted = inside(tuple(points), tuple(rays), x)
            self.assertEqual(paper[0] == "mixture", wanted)
            self.assertIs(is_unavoidable_step(behaviour, x, action), wanted)
        self.assertTrue(min(found.values()) > 50, found)

    def test_places_bar_and_allow_all_seen_runs(self):
        for behaviour, x, action in chance_steps(112, 100):
            kind, place = step_paper(behaviour, x, action)
            if kind == "place":
                for run in reference.runs(behaviour, 5):
                    self.assertTrue(allows_word(behaviour[0], place, run))
                self.assertFalse(allows(place, x, behaviour[0].index(action)))

    def test_seen_steps_are_unavoidable(self):
        for behaviour in behaviours(113, 60):
            for run in reference.runs(behaviour, 4):
                if run:
                    self.assertIs(is_unavoidable_step(behaviour, counts(behaviour[0], run[:-1]), run[-1]), True)
                self.assertIs(is_unavoidable(behaviour, run), True)

    def test_places_of_other_bounds(self):
        # Whatever a place shows that respects the behaviour, no mixture shows the contrary.
        chance = random.Random(114)
        for behaviour, x, action in chance_steps(115, 300):
            wide = len(behaviour[0])
            place = (chance.randint(0, 3), chance_vectors(chance, 1, wide, 1)[0], chance_vectors(chance, 1, wide, 1)[0])
            if respects(behaviour, place) and not allows(place, x, behaviour[0].index(action)):
                self.assertIs(is_unavoidable_step(behaviour, x, action), False)
                self.assertIs(is_step_paper(behaviour, x, action, ("place", place)), True)

    def test_never_seen(self):
        behaviour = log_of(AB, ("a",))
        for x in ((0, 0), (1, 0), (5, 7)):
            self.assertIs(is_unavoidable_step(behaviour, x, "b"), False)
            self.assertEqual(step_paper(behaviour, x, "b")[0], "place")
            self.assertIs(is_step_paper(behaviour, x, "b", ("place", (0, (0, 1), (0, 1)))), True)
        self.same(step_paper(NOTHING, (0,), "a")[0], "place")

    def test_large_numbers(self):
        self.assertIs(is_unavoidable_step(TURN, (FORTY, FORTY), "p"), True)
        self.assertIs(is_unavoidable_step(TURN, (FORTY - 1, FORTY), "p"), False)
        paper = step_paper(TURN, (FORTY, FORTY), "p")
        self.assertIs(is_step_paper(TURN, (FORTY, FORTY), "p", paper), True)
        place = step_paper(TURN, (FORTY, FORTY), "c")
        self.assertIs(is_step_paper(TURN, (FORTY, FORTY), "c", place), True)

    def test_only_circles_on_the_way(self):
        # The circle of b is behind a way that does not lead to x; it counts nevertheless.
        behaviour = behaviour_of(ABX, (0, "x", 1), (0, "a", 2), (2, "b", 2))
        self.assertIs(is_unavoidable_step(behaviour, (0, 5, 0), "x"), True)
        paper = ("mixture", ((((1, 1), ()),), (((5, 1), ("a",), ("b",)),)))
        self.assertIs(is_step_paper(behaviour, (0, 5, 0), "x", paper), True)

    def test_many_small_calls(self):
        start = time.process_time()
        for number in range(2000):
            step_paper(TWO, (number % 3, number % 2, 0), "x")
            is_unavoidable(TURN, ("p", "c", "p"))
        self.assertTrue(time.process_time() - start < 10)


class StepPapers(Case):
    def test_near_papers(self):
        chance = random.Random(116)
        seen = {True: 0, False: 0}
        for behaviour, x, action in chance_steps(117, 250):
            kind, mixture = step_paper(behaviour, x, action)
            if kind == "place":
                continue
            for _ in range(12):
                parts, circles = [list(part) for part in mixture[0]], [list(one) for one in mixture[1]]
                rows = parts + circles
                row = chance.choice(rows)
                change = chance.randint(0, 5)
                if change == 0:
                    row[0] = chance.choice(((1, 1), (1, 2), (0, 1), (2, 2), (-1, 1), (2, 1)))
                elif change == 1:
                    row[-1] = (*row[-1], chance.choice(behaviour[0]))
                elif change == 2:
                    row[-1] = row[-1][1:] + row[-1][:1]
                elif change == 3:
                    row[1] = chance.choice(reference.runs(behaviour, 3))
                elif change == 4:
                    half = row[0][0], 2 * row[0][1]
                    row[0] = Fraction(*half).numerator, Fraction(*half).denominator
                    (parts if len(row) == 2 else circles).insert(0, list(row))
                else:
                    (parts if len(row) == 2 else circles).remove(row)
                near = tuple(tuple(part) for part in parts[::-1]), tuple(tuple(one) for one in circles)
                wanted = is_mixture(behaviour, x, action, near)
                seen[wanted] += 1
                self.assertIs(is_step_paper(behaviour, x, action, ("mixture", near)), wanted, (behaviour, x, action, near))
        self.assertTrue(min(seen.values()) > 100, seen)

    def test_any_order_and_repeated(self):
        third = (1, 3)
        runs = (("a", "a"), ("b", "b"), ("a", "a"))
        for order in ((0, 1, 2), (2, 1, 0), (1, 0, 2)):
            parts = tuple((third, runs[at]) for at in order)
            self.assertIs(is_step_paper(TWO, (1, 1, 0), "x", ("mixture", (parts, ()))), False)
        parts = (((1, 4), ("a", "a")), ((1, 2), ("b", "b")), ((1, 4), ("a", "a")))
        self.assertIs(is_step_paper(TWO, (1, 1, 0), "x", ("mixture", (parts, ()))), True)
        circles = (((1, 2), (), ("p", "c")), ((1, 2), ("p",), ("c", "p")), ((1, 2), (), ("p", "c", "p", "c")))
        self.assertIs(is_step_paper(TURN, (2, 2), "p", ("mixture", ((((1, 1), ()),), circles))), True)
        self.assertIs(is_step_paper(TURN, (2, 2), "p", ("mixture", ((((1, 1), ()),), circles[::-1]))), True)

    def test_of_any_length(self):
        turn = ("p", "c") * 400
        self.assertIs(is_step_paper(TURN, (400, 400), "p", ("mixture", ((((1, 1), turn),), ()))), True)
        self.assertIs(is_step_paper(TURN, (400, 400), "p", ("mixture", ((((1, 1), ()),), (((1, 1), turn, turn),)))), True)
        self.assertIs(is_step_paper(TURN, (1, 1), "p", ("mixture", ((((1, 1), ()),), (((1, 400), turn, turn),)))), True)
        self.assertIs(is_step_paper(TURN, (400, 400), "c", ("mixture", ((((1, 1), turn),), ()))), False)

    def test_what_is_wrong(self):
        right = ("mixture", HALVES)
        parts, circles = HALVES
        wrong = (
            ("mixture", (parts[:1], circles)), ("mixture", ((), ())), ("mixture", ((), circles)), ("mixture", parts), ("mixture", (parts,)),
            ("mixture", (parts, circles, ())), ("mixture", (list(parts), circles)), ("mixture", (parts, [])), ("mixture", [parts, circles]),
            ["mixture", HALVES], ("mixture",), ("mixture", HALVES, ()), ("place", HALVES), ("mixtures", HALVES), ("mixture", None),
            ("mixture", ((((2, 4), ("a", "a")), parts[1]), ())), ("mixture", ((((1, 2), ["a", "a"]), parts[1]), ())),
            ("mixture", ((((1, 2), ("a",)), parts[1]), ())), ("mixture", ((((1, 2), ("a", "a"), ()), parts[1]), ())),
            ("mixture", (([(1, 2), ("a", "a")], parts[1]), ())), ("mixture", (parts + (((0, 1), ("a", "a")),), ())),
            ("mixture", (parts + (((-1, 2), ("a", "a")), ((1, 2), ("a", "a"))), ())), ("mixture", (parts, (((0, 1), (), ("a",)),))),
            ("mixture", ((((1, 1), ("a", "b")),), ())), ("mixture", (parts, ((), (), ()))), ("mixture", (parts, (None,))),
        )
        self.assertIs(is_step_paper(TWO, (1, 1, 0), "x", right), True)
        for value in wrong:
            self.assertIs(is_step_paper(TWO, (1, 1, 0), "x", value), False, value)
        self.assertIs(is_step_paper(TWO, (2, 1, 0), "x", right), False)
        # An empty circle would change no sum.
        self.assertIs(is_step_paper(LOOP, (0,), "a", ("mixture", ((((1, 1), ()),), (((1, 1), (), ()),)))), False)
        self.assertIs(is_step_paper(TWO, (1, 1, 0), "a", right), False)
        for circle in (("c", "p"), (), ("p",), ("p", "c", "p"), ["p", "c"], None, ("x",), "pc"):
            self.assertIs(is_step_paper(TURN, (1, 1), "p", ("mixture", ((((1, 1), ()),), (((1, 1), (), circle),)))), False, circle)
        for multiple in ((0, 1), (-1, 1), (2, 2), (True, 1), 1, None, (1, 1, 1), (2, 1)):
            self.assertIs(is_step_paper(TURN, (1, 1), "p", ("mixture", ((((1, 1), ()),), ((multiple, (), ("p", "c")),)))), False)

    def test_any_value(self):
        self.answers(lambda value: is_step_paper(LOOP, (0,), "a", value), lambda value: same(value, ("mixture", ((((1, 1), ()),), ()))))
        self.answers(lambda value: is_step_paper(NOTHING, (0,), "a", value), lambda value: same(value, ("place", (0, (1,), (0,)))))
        self.answers(lambda value: is_step_paper(NOTHING, (0,), "a", ("place", value)), lambda value: same(value, (0, (1,), (0,))))
        self.answers(lambda value: is_step_paper(LOOP, (0,), "a", ("mixture", value)), lambda value: same(value, ((((1, 1), ()),), ())))
        self.answers(lambda value: is_step_paper(LOOP, (0,), "a", ("mixture", ((value,), ()))), lambda value: False)
        self.answers(lambda value: is_step_paper(LOOP, (0,), "a", ("mixture", ((((1, 1), value),), ()))), lambda value: same(value, ()))
        self.answers(lambda value: is_step_paper(LOOP, (0,), "a", ("mixture", (((value, ()),), ()))), lambda value: False)
        self.answers(lambda value: is_step_paper(LOOP, (1,), "a", ("mixture", ((((1, 1), ()),), (((1, 1), (), value),)))), lambda value: value == ("a",))
        self.answers(lambda value: is_step_paper(LOOP, (1,), "a", ("mixture", ((((1, 1), ()),), (((1, 1), value, ("a",)),)))),
                     lambda value: value in ((), ("a",), ("a", "a")))
        for place in ((0, (0, 1), (1, 0)), (0, (1, 1), (1, 1)), (0, (1,), (0,)), (0, (1, 0, 0), (0, 0, 0)), (0, (True, 0), (0, 1)), [0, (1, 0), (0, 1)]):
            self.assertIs(is_step_paper(TURN, (0, 0), "c", ("place", place)), False, place)
        self.assertIs(is_step_paper(TURN, (0, 0), "c", ("place", FILL)), True)
        self.assertIs(is_step_paper(TURN, (0, 1), "c", ("place", FILL)), False)

    def test_wrong_arguments(self):
        for call in (step_paper, is_unavoidable_step, lambda *args: is_step_paper(*args, None)):
            for value in NO_BEHAVIOURS:
                self.fails(InvalidBehaviour, call, value, None, None)
            for value in kinds():
                right = isinstance(value, tuple) and len(value) == 1 and is_int(value[0]) and value[0] >= 0
                if not right:
                    self.fails(InvalidVector, call, NOTHING, value, None)
                if value != "a":
                    self.fails_with(UnknownName, "name", value, call, NOTHING, (0,), value)
            for x in ((0, 0), (0, -1, 0), (0, 0, True), [0, 0, 0], (0, 0, 0, 0)):
                self.fails(InvalidVector, call, TWO, x, "a")
            wrong = [("behaviour", (AB, 2, ()), InvalidBehaviour, None), ("counts", (-1, 0, 0), InvalidVector, None),
                     ("action", "c", UnknownName, "name")]
            self.ordered(call, {"behaviour": TWO, "counts": (1, 1, 0), "action": "x"}, wrong)
        for call in (step_paper, is_unavoidable_step):
            self.fails_with(TooMany, "limit", 5000, call, MANY, (0,) * 5, "a")
            self.fails(UnknownName, call, MANY, (0,) * 5, "x")
            self.fails(InvalidVector, call, MANY, (0,) * 4, "a")
        self.assertIs(is_step_paper(MANY, (0,) * 5, "a", ("mixture", ((((1, 1), ()),), ()))), True)
        self.leaves(step_paper, TWO, (1, 1, 0), "x")


class Bounds(Case):
    def test_least_start(self):
        chance = random.Random(118)
        made = 0
        for behaviour in behaviours(119, 400):
            alphabet = behaviour[0]
            action = chance.choice(alphabet)
            u, v = chance_vectors(chance, 1, len(alphabet), 2, -2)[0], chance.randint(-2, 4)
            points, rays = reference.points_of(behaviour, action), reference.rays(behaviour)
            if any(product(u, point) > v for point in points) or any(product(u, ray) > 0 for ray in rays):
                self.fails(InvalidOperation, place_of_bound, behaviour, action, u, v)
                continue
            made += 1
            place = place_of_bound(behaviour, action, u, v)
            start, takes, gives = place
            at = alphabet.index(action)
            self.assertEqual([given - taken for taken, given in zip(takes, gives)], [-number for number in u])
            self.assertEqual(takes[at], start - v)
            self.assertEqual([taken for other, taken in zip(alphabet, takes) if other != action],
                             [max(0, number) for other, number in zip(alphabet, u) if other != action])
            self.assertIs(respects(behaviour, place), True)
            self.assertTrue(min(start, *takes, *gives) >= 0)
            less = (start - 1, tuple(taken - (other == action) for other, taken in zip(alphabet, takes)),
                    tuple(given - (other == action) for other, given in zip(alphabet, gives)))
            self.assertTrue(min(less[0], *less[1], *less[2]) < 0 or not respects(behaviour, less))
            # Of the steps with this action it bars exactly those that are beyond the bound.
            for x in chance_vectors(chance, 10, len(alphabet), 4):
                self.assertEqual(allows(place, x, at), product(u, x) <= v)
        self.assertTrue(made > 50)

    def test_examples(self):
        self.same(place_of_bound(TURN, "p", (1, -1), 0), (0, (1, 0), (0, 1)))
        self.same(place_of_bound(TURN, "p", (-1, 1), 0), (1, (0, 1), (1, 0)))
        self.same(place_of_bound(TURN, "c", (0, -1), -1), (0, (1, 0), (1, 1)))
        self.same(place_of_bound(log_of(AB, ("a",)), "b", (0, 0), -1), (0, (0, 1), (0, 1)))
        self.same(place_of_bound(NOTHING, "a", (5,), FORTY), (FORTY + 5, (5,), (0,)))
        self.same(place_of_bound(NOTHING, "a", (-FORTY,), -FORTY), (0, (FORTY,), (2 * FORTY,)))
        self.same(place_of_bound(TWO, "x", (0, 0, 1), 0), (1, (0, 0, 1), (0, 0, 0)))
        self.same(place_of_bound(TWO, "b", (1, 0, 0), 0), (2, (1, 2, 0), (0, 2, 0)))

    def test_errors(self):
        for value in kinds():
            if value != "a":
                self.fails_with(UnknownName, "name", value, place_of_bound, NOTHING, value, None, None)
            if not (isinstance(value, tuple) and len(value) == 1 and is_int(value[0])):
                self.fails(InvalidVector, place_of_bound, NOTHING, "a", value, None)
            if not is_int(value):
                self.fails_with(InvalidNumber, "value", value, place_of_bound, NOTHING, "a", (0,), value)
        for value in NO_BEHAVIOURS:
            self.fails(InvalidBehaviour, place_of_bound, value, None, None, None)
        good = {"behaviour": TURN, "action": "p", "u": (1, -1), "v": 0}
        wrong = [("behaviour", (AB, 2, ()), InvalidBehaviour, None), ("action", "x", UnknownName, "name"), ("u", (1,), InvalidVector, None),
                 ("v", True, InvalidNumber, "value"), ("u", (1, 0), InvalidOperation, None), ("v", -1, InvalidOperation, None)]
        self.ordered(place_of_bound, good, wrong)
        self.fails_with(TooMany, "limit", 5000, place_of_bound, MANY, "a", (1,) * 5, 0)
        self.fails(InvalidNumber, place_of_bound, MANY, "a", (1,) * 5, None)
        self.fails(InvalidOperation, place_of_bound, LOOP, "a", (1,), 5)
        self.fails(InvalidOperation, place_of_bound, TWO, "x", (1, 0, 0), 1)


class Words(Case):
    def test_papers(self):
        found = {"place": 0, "mixtures": 0}
        chance = random.Random(120)
        for behaviour in behaviours(121, 150):
            alphabet = behaviour[0]
            for _ in range(5):
                word = tuple(chance.choice(alphabet) for _ in range(chance.randint(0, 5)))
                paper = word_paper(behaviour, word)
                steps = [(counts(alphabet, word[:at]), word[at]) for at in range(len(word))]
                avoidable = [at for at, step in enumerate(steps) if not is_unavoidable_step(behaviour, *step)]
                self.assertIs(is_word_paper(behaviour, word, paper), True)
                self.assertIs(is_unavoidable(behaviour, word), not avoidable)
                found[paper[0]] += 1
                if avoidable:
                    self.same(paper[:2], ("place", avoidable[0]))
                    self.assertTrue(bars(behaviour, *steps[avoidable[0]], paper[2]))
                    self.assertFalse(allows_word(alphabet, paper[2], word))
                else:
                    self.assertEqual(paper[0], "mixtures")
                    self.assertEqual(len(paper[1]), len(word))
                    for step, mixture in zip(steps, paper[1]):
                        self.assertTrue(is_mixture(behaviour, *step, mixture))
        self.assertTrue(min(found.values()) > 50)

    def test_other_papers(self):
        word = ("a", "b", "x", "x")
        for position, (x, action) in enumerate([((0, 0, 0), "a"), ((1, 0, 0), "b"), ((1, 1, 0), "x"), ((1, 1, 1), "x")]):
            paper = step_paper(TWO, x, action)
            self.assertIs(is_word_paper(TWO, word, ("place", position, paper[1])), paper[0] == "place")
            for other in (-1, 4, True, False, None, "1", (position,), FORTY):
                self.assertIs(is_word_paper(TWO, word, ("place", other, paper[1])), False)
        self.same(word_paper(TWO, word)[:2], ("place", 1))
        last = step_paper(TWO, (1, 1, 1), "x")[1]
        self.assertIs(is_word_paper(TWO, word, ("place", 3, last)), True)
        self.assertIs(is_word_paper(TWO, word, ("place", 2, last)), False)
        run = ("a", "a", "x")
        kind, mixtures = word_paper(TWO, run)
        self.same(kind, "mixtures")
        for wrong in (mixtures[:2], mixtures + mixtures[:1], mixtures[::-1], list(mixtures), (mixtures[0], None, mixtures[2]), (), None):
            self.assertIs(is_word_paper(TWO, run, ("mixtures", wrong)), False)
        self.assertIs(is_word_paper(TWO, word, ("bars", 3, last)), False)
        self.assertIs(is_word_paper(TWO, word, ("place", 3, last, ())), False)
        for wrong in (("mixtures",), ("mixtures", mixtures, ()), ["mixtures", mixtures], ("mixture", mixtures), ("place", 0)):
            self.assertIs(is_word_paper(TWO, run, wrong), False)

    def test_empty_word(self):
        for behaviour in (TWO, NOTHING, TURN):
            self.same(word_paper(behaviour, ()), ("mixtures", ()))
            self.same(is_unavoidable(behaviour, ()), True)
            self.assertIs(is_word_paper(behaviour, (), ("mixtures", ())), True)
            self.assertIs(is_word_paper(behaviour, (), ("place", 0, (0, (1,) * len(behaviour[0]), (0,) * len(behaviour[0])))), False)
        self.assertIs(is_word_paper(MANY, (), ("mixtures", ())), True)
        for call in (word_paper, is_unavoidable, unavoidable_followers):
            self.fails_with(TooMany, "limit", 5000, call, MANY, ())

    def test_long_words(self):
        turn = ("p", "c") * 100
        self.assertIs(is_unavoidable(TURN, turn), True)
        paper = word_paper(TURN, turn)
        self.assertIs(is_word_paper(TURN, turn, paper), True)
        self.same(unavoidable_followers(TURN, turn), ("p",))
        self.same(word_paper(TURN, turn[:198] + ("p", "p"))[:2], ("place", 199))

    def test_followers(self):
        chance = random.Random(122)
        for behaviour in behaviours(123, 150):
            alphabet = behaviour[0]
            for _ in range(4):
                word = tuple(chance.choice(alphabet) for _ in range(chance.randint(0, 4)))
                if is_unavoidable(behaviour, word):
                    wanted = tuple(action for action in alphabet if is_unavoidable(behaviour, (*word, action)))
                    self.same(unavoidable_followers(behaviour, word), wanted)
                else:
                    place = self.fails(Avoidable, unavoidable_followers, behaviour, word).place
                    self.assertIs(respects(behaviour, place), True)
                    self.assertFalse(allows_word(alphabet, place, word))
        self.same(unavoidable_followers(TWO, ("a",)), ("a",))
        self.same(unavoidable_followers(NOTHING, ()), ())

    def test_any_value(self):
        self.answers(lambda value: is_word_paper(LOOP, (), value), lambda value: same(value, ("mixtures", ())))
        self.answers(lambda value: is_word_paper(NOTHING, ("a",), value), lambda value: same(value, ("place", 0, (0, (1,), (0,)))))
        self.answers(lambda value: is_word_paper(NOTHING, ("a",), ("place", value, (0, (1,), (0,)))), lambda value: same(value, 0))
        self.answers(lambda value: is_word_paper(LOOP, ("a",), ("mixtures", (value,))), lambda value: same(value, ((((1, 1), ()),), ())))
        self.answers(lambda value: is_word_paper(LOOP, ("a",), ("mixtures", value)), lambda value: False)

    def test_wrong_arguments(self):
        calls = (is_unavoidable, word_paper, unavoidable_followers, lambda one, other: is_word_paper(one, other, None))
        for call in calls:
            for value in NO_BEHAVIOURS:
                self.fails(InvalidBehaviour, call, value, None)
            self.refuses(InvalidWord, lambda value: call(LOOP, value), lambda value: value in ((), ("a",), ("a", "a")))
            self.fails(InvalidWord, call, TURN, ("p", "c") * 100 + ("p",))
            self.fails(InvalidWord, call, MANY, ("x",))
            self.ordered(call, {"behaviour": TURN, "word": ("p",)},
                         [("behaviour", (AB, 2, ()), InvalidBehaviour, None), ("word", ("x",), InvalidWord, None)])
        self.leaves(word_paper, TWO, ("a", "b"))


class NotTrue(Case):
    """What [0.17] says must not be relied upon."""

    def test_counts_need_not_be_seen(self):
        self.assertNotIn((1, 1, 0), points_of(TWO, "x"))
        self.assertIs(is_unavoidable_step(TWO, (1, 1, 0), "x"), True)

    def test_no_unavoidable_word_leads_there(self):
        self.assertIs(is_unavoidable_step(TWO, (1, 1, 0), "x"), True)
        for word in (("a", "b"), ("b", "a")):
            self.assertIs(is_unavoidable(TWO, word), False)

    def test_weights_are_no_integers(self):
        kind, (parts, circles) = step_paper(TWO, (1, 1, 0), "x")
        self.same((kind, sorted(parts), circles), ("mixture", [((1, 2), ("a", "a")), ((1, 2), ("b", "b"))], ()))
        turn = behaviour_of(AB, (0, "a", 1), (1, "a", 0), (0, "b", 2))
        paper = step_paper(turn, (1, 0), "b")
        self.same(paper, ("mixture", ((((1, 1), ()),), (((1, 2), (), ("a", "a")),))))

    def test_other_actions_are_of_no_use(self):
        self.assertIs(is_step_paper(TWO, (1, 1, 0), "b", ("mixture", HALVES)), False)
        self.assertIs(is_unavoidable_step(TWO, (1, 1, 0), "b"), False)

    def test_the_other_order(self):
        behaviour = log_of(AB, ("a", "b"))
        self.assertIs(is_unavoidable(behaviour, ("a", "b")), True)
        self.assertIs(is_unavoidable(behaviour, ("b", "a")), False)

    def test_circles_elsewhere_count(self):
        behaviour = behaviour_of(ABX, (0, "x", 1), (0, "a", 2), (2, "b", 2))
        self.assertIs(is_unavoidable(behaviour, ("a", "b", "b")), True)
        self.assertIs(is_unavoidable(behaviour, ("x",)), True)
        self.assertIs(is_unavoidable_step(behaviour, (0, 3, 0), "x"), True)

    def test_avoidable_for_both_but_not_together(self):
        one, other = log_of(ABX, ("a", "a", "x")), log_of(ABX, ("b", "b", "x"))
        for behaviour in (one, other):
            self.assertIs(is_unavoidable_step(behaviour, (1, 1, 0), "x"), False)
        self.assertIs(is_unavoidable_step(TWO, (1, 1, 0), "x"), True)


if __name__ == "__main__":
    unittest.main()
