"""Tests of leastnet.compare.sums: [14.1] to [14.3]."""

import random
import time
import unittest

from leastnet.base.fractions import reduced
from leastnet.compare.sums import is_least_sum, least_sum, strictest_place, told_sums, told_value
from leastnet.errors import InvalidBehaviour, InvalidNumber, InvalidOperation, InvalidVector, UnknownName
from leastnet.nets.places import change_of, is_place
from leastnet.seen.behaviours import behaviour_of, log_of
from leastnet.seen.respect import respects
from helpers import FORTY, Case, kinds, same
from reference import AB, ABX, CP, FIVE, NO_BEHAVIOURS, NOTHING, TURN, TWO, allows, behaviours, counts, followers, is_int, null_space
from reference import plain_rows, product, runs, states, words
from test_least import MANY
import papers

LOOP = (("a",), 1, ((0, "a", 0),))
# The circle of b is left behind for ever by x; that of a is not reached by it.
SIDES = behaviour_of(ABX, (0, "x", 1), (0, "a", 2), (2, "b", 2), (1, "x", 3))


def chance_sums(seed, many):
    """Return triples of a behaviour, a vector and an action or None."""
    chance = random.Random(seed)
    return [
        (behaviour, tuple(chance.randint(-1, 2) for _ in behaviour[0]), chance.choice((None, *behaviour[0])))
        for behaviour in behaviours(seed, many)
    ]


class Least(Case):
    def test_examples(self):
        found = [least_sum(TURN, (-1, 1))[:2], least_sum(TURN, (0, 1), before="c"), least_sum(TURN, (-1, 0))[0]]
        self.same(found, [("least", 0), ("least", 1, ("p",)), "falls"])

    def test_exactly_one_kind(self):
        found = {"least": 0, "falls": 0, "none": 0}
        for behaviour, u, before in chance_sums(241, 800):
            paper = least_sum(behaviour, u, before=before)
            found[paper[0]] += 1
            self.assertTrue(papers.is_least_sum(behaviour, u, before, paper), (behaviour, u, before, paper))
            self.assertIs(is_least_sum(behaviour, u, paper, before=before), True)
            wanted = papers.least_of_all(behaviour, u, before)
            self.same(paper[0], "none" if wanted is None else "falls" if wanted == "falls" else "least")
        self.assertTrue(min(found.values()) > 50, found)

    def test_against_all_runs(self):
        for behaviour, u, before in chance_sums(242, 250):
            paper = least_sum(behaviour, u, before=before)
            some = [run for run in runs(behaviour, 6) if before is None or before in followers(behaviour, run)]
            sums = [product(u, counts(behaviour[0], run)) for run in some]
            if paper[0] == "none":
                self.same(some, [])
            elif paper[0] == "least":
                self.assertEqual(paper[1], product(u, counts(behaviour[0], paper[2])))
                self.assertTrue(all(paper[1] <= one for one in sums))
                # Circles of no negative sum do not help, so a simple path has the least one.
                self.assertEqual(paper[1], min(sums))
            else:
                _, run, circle, rest = paper
                for many in range(1, 4):
                    whole = run + circle * many + rest
                    self.assertTrue(states(behaviour, whole))
                    self.assertTrue(before is None or before in followers(behaviour, whole))

    def test_all_runs_as_papers(self):
        found = {True: 0, False: 0}
        for behaviour, u, before in chance_sums(251, 200):
            wanted = papers.least_of_all(behaviour, u, before)
            for run in runs(behaviour, 4):
                number = product(u, counts(behaviour[0], run))
                right = number == wanted and (before is None or before in followers(behaviour, run))
                found[right] += 1
                self.assertIs(is_least_sum(behaviour, u, ("least", number, run), before=before), right, (behaviour, u, before, run))
        self.assertTrue(min(found.values()) > 100, found)

    def test_circles_that_do_not_matter(self):
        self.same(least_sum(SIDES, (0, -1, 0))[0], "falls")
        self.same(least_sum(SIDES, (0, -1, 0), before="x"), ("least", 0, ()))
        self.same(least_sum(SIDES, (0, -1, 0), before="a"), ("least", 0, ()))
        self.same(least_sum(SIDES, (0, -1, 0), before="b")[0], "falls")
        self.same(least_sum(SIDES, (0, -1, -5), before="x"), ("least", -5, ("x",)))
        self.same(least_sum(SIDES, (0, 1, 0)), ("least", 0, ()))
        self.assertIs(is_least_sum(SIDES, (0, -1, 0), ("falls", ("a",), ("b",), ()), before="x"), False)
        self.assertIs(is_least_sum(SIDES, (0, -1, 0), ("falls", ("a",), ("b",), ())), True)
        self.assertIs(is_least_sum(SIDES, (0, -1, 0), ("least", 0, ()), before="x"), True)
        self.assertIs(is_least_sum(SIDES, (0, -1, 0), ("least", 0, ())), False)

    def test_edges(self):
        self.same(least_sum(NOTHING, (-5,)), ("least", 0, ()))
        self.same(least_sum(NOTHING, (-5,), before="a"), ("none",))
        self.same(least_sum(LOOP, (0,), before="a"), ("least", 0, ()))
        self.same(least_sum(LOOP, (-FORTY,)), ("falls", (), ("a",), ()))
        self.same(least_sum(log_of(("a",), ("a", "a")), (-FORTY,)), ("least", -2 * FORTY, ("a", "a")))
        self.same(least_sum(log_of(("a",), ("a", "a")), (-FORTY,), before="a"), ("least", -FORTY, ("a",)))
        self.same(least_sum(MANY, (-1, 0, 0, 0, 0))[:2], ("least", -9))

    def test_near_papers(self):
        chance = random.Random(243)
        seen = {True: 0, False: 0}
        for behaviour, u, before in chance_sums(244, 500):
            paper = least_sum(behaviour, u, before=before)
            for _ in range(6):
                value = papers.near(chance, paper)
                wanted = papers.is_least_sum(behaviour, u, before, value)
                seen[wanted] += 1
                self.assertIs(is_least_sum(behaviour, u, value, before=before), wanted, (behaviour, u, before, value))
        self.assertTrue(min(seen.values()) > 100, seen)

    def test_words_that_fit(self):
        # Two edges of one action: the circle is at one state, the rest begins at the other one.
        behaviour = behaviour_of(ABX, (0, "a", 1), (0, "a", 2), (1, "b", 1), (2, "x", 3))
        self.assertIs(is_least_sum(behaviour, (0, -1, 0), ("falls", ("a",), ("b",), ())), True)
        self.assertIs(is_least_sum(behaviour, (0, -1, 0), ("falls", ("a",), ("b",), ("x",))), False)
        self.assertIs(is_least_sum(behaviour, (0, -1, 0), ("falls", ("a",), ("b", "b"), ("b",))), True)
        self.assertIs(is_least_sum(behaviour, (0, -1, 0), ("falls", ("a",), ("b",), ("b",)), before="x"), False)
        self.assertIs(is_least_sum(behaviour, (0, -1, 0), ("falls", ("a",), ("b",), ("b",)), before="b"), True)
        self.assertIs(is_least_sum(behaviour, (0, -1, 0), ("falls", ("a", "b"), (), ("b",))), False)
        long = ("b",) * 500
        self.assertIs(is_least_sum(behaviour, (0, -1, 0), ("falls", ("a", *long), long, long)), True)
        # A run that leads to two states, of which one has the edge.
        self.assertIs(is_least_sum(behaviour, (1, 0, 0), ("least", 1, ("a",)), before="x"), True)
        self.assertIs(is_least_sum(behaviour, (1, 0, 0), ("least", 1, ("a", "b")), before="x"), False)
        self.assertIs(is_least_sum(behaviour, (0, 0, 0), ("least", 0, ("a",) + long)), True)

    def test_any_value(self):
        self.answers(lambda value: is_least_sum(NOTHING, (1,), value), lambda value: same(value, ("least", 0, ())))
        self.answers(lambda value: is_least_sum(NOTHING, (1,), value, before="a"), lambda value: False)
        self.assertIs(is_least_sum(NOTHING, (1,), ("none",), before="a"), True)
        self.assertIs(is_least_sum(NOTHING, (1,), ("none",)), False)
        self.answers(lambda value: is_least_sum(LOOP, (-1,), value), lambda value: same(value, ("falls", (), ("a",), ())))
        self.answers(lambda value: is_least_sum(LOOP, (1,), ("least", value, ())), lambda value: same(value, 0))
        self.answers(lambda value: is_least_sum(LOOP, (0,), ("least", 0, value)), lambda value: papers.is_word(("a",), value))
        for at in (1, 2, 3):
            paper = ["falls", (), ("a",), ()]

            def call(value, at=at, paper=paper):
                return is_least_sum(LOOP, (-1,), (*paper[:at], value, *paper[at + 1:]))

            self.answers(call, lambda value, at=at: papers.is_word(("a",), value) and (at != 2 or value))
        for wrong in (["least", 0, ()], ("least", 0), ("least", 0, (), ()), ("none", 0, ()), ("least", 0, []), ("most", 0, ())):
            self.assertIs(is_least_sum(NOTHING, (1,), wrong), False)

    def test_errors(self):
        for call in (least_sum, lambda behaviour, u, **more: is_least_sum(behaviour, u, None, **more)):
            for value in NO_BEHAVIOURS:
                self.fails(InvalidBehaviour, call, value, None, before=[])
            for value in kinds():
                if not (isinstance(value, tuple) and len(value) == 1 and is_int(value[0])):
                    self.fails(InvalidVector, call, NOTHING, value, before=[])
                if value is not None and value != "a":
                    self.fails_with(UnknownName, "name", value, call, NOTHING, (0,), before=value)
                else:
                    call(NOTHING, (0,), before=value)
            for u in ((0,), (0, 0, 0), (0, True), [0, 0], (0, None)):
                self.fails(InvalidVector, call, TURN, u)
            self.ordered(lambda behaviour, u, before, call=call: call(behaviour, u, before=before),
                         {"behaviour": TURN, "u": (0, 0), "before": "c"},
                         [("behaviour", None, InvalidBehaviour, None), ("u", (0,), InvalidVector, None), ("before", "x", UnknownName, "name")])
        with self.assertRaises(TypeError):
            least_sum(TURN, (0, 0), "c")
        self.leaves(least_sum, TURN, (0, 1), before="c")


class Strictest(Case):
    def test_examples(self):
        found = [strictest_place(TURN, (-1, 1)), strictest_place(TURN, (0, 1)), strictest_place(TWO, (0, 0, -1))]
        self.same(found, [(0, (1, 0), (0, 1)), (0, (1, 0), (1, 1)), (1, (1, 1, 1), (1, 1, 0))])

    def test_least_start(self):
        made = 0
        for behaviour, u, _ in chance_sums(245, 500):
            if papers.least_of_all(behaviour, u, None) == "falls":
                self.fails(InvalidOperation, strictest_place, behaviour, u)
                continue
            made += 1
            alphabet = behaviour[0]
            place = strictest_place(behaviour, u)
            start, takes, gives = place
            self.assertIs(is_place(alphabet, place), True)
            self.same(change_of(place), u)
            self.assertIs(respects(behaviour, place), True)
            seen = {action for _, action, _ in behaviour[2]}
            for at, action in enumerate(alphabet):
                if action in seen:
                    self.assertEqual(takes[at], start + papers.least_of_all(behaviour, u, action))
                else:
                    self.assertEqual(takes[at], max(0, -u[at]))
            less = (start - 1, tuple(taken - (action in seen) for taken, action in zip(takes, alphabet)),
                    tuple(given - (action in seen) for given, action in zip(gives, alphabet)))
            self.assertTrue(not is_place(alphabet, less) or not respects(behaviour, less))
        self.assertTrue(made > 100)

    def test_strictest_of_all(self):
        chance = random.Random(246)
        for behaviour, u, _ in chance_sums(247, 200):
            if papers.least_of_all(behaviour, u, None) == "falls":
                continue
            alphabet = behaviour[0]
            place = strictest_place(behaviour, u)
            seen = {action for _, action, _ in behaviour[2]}
            for _ in range(10):
                takes = tuple(max(0, -one) + chance.randint(0, 2) for one in u)
                other = (chance.randint(0, 5), takes, tuple(taken + one for taken, one in zip(takes, u)))
                if respects(behaviour, other):
                    for word in words(alphabet, 3):
                        for at, action in enumerate(alphabet):
                            if action in seen and allows(place, counts(alphabet, word), at):
                                self.assertTrue(allows(other, counts(alphabet, word), at))

    def test_edges(self):
        self.same(strictest_place(NOTHING, (-3,)), (0, (3,), (0,)))
        self.same(strictest_place(NOTHING, (3,)), (0, (0,), (3,)))
        self.same(strictest_place(NOTHING, (0,)), (0, (0,), (0,)))
        self.same(strictest_place(LOOP, (FORTY,)), (0, (0,), (FORTY,)))
        self.same(strictest_place(log_of(AB, ("a",)), (-FORTY, 0)), (FORTY, (FORTY, 0), (0, 0)))
        # A circle that is not on the way to an action counts nevertheless.
        self.fails(InvalidOperation, strictest_place, SIDES, (0, -1, 0))
        self.same(strictest_place(SIDES, (0, 0, 0)), (0, (0, 0, 0), (0, 0, 0)))

    def test_errors(self):
        for value in NO_BEHAVIOURS:
            self.fails(InvalidBehaviour, strictest_place, value, None)
        self.refuses(InvalidVector, lambda value: strictest_place(NOTHING, value),
                     lambda value: isinstance(value, tuple) and len(value) == 1 and is_int(value[0]))
        self.ordered(strictest_place, {"behaviour": TURN, "u": (0, 0)},
                     [("behaviour", None, InvalidBehaviour, None), ("u", (0,), InvalidVector, None), ("u", (-1, 0), InvalidOperation, None)])


class Told(Case):
    def test_examples(self):
        self.same([told_sums(TURN), told_sums(TWO), told_value(TURN, (-2, 2), 1)], [((1, -1),), ((1, 1, 0), (0, 0, 1)), 2])

    def by_state(self, behaviour, longest):
        """Return for each state the counts of words that lead to it."""
        found = {}
        for word in runs(behaviour, longest):
            for state in states(behaviour, word):
                found.setdefault(state, []).append(counts(behaviour[0], word))
        return found

    def test_told_by_all_words(self):
        kinds_of = set()
        for behaviour in behaviours(248, 250, size=4, more=3):
            rows = told_sums(behaviour)
            kinds_of.add(len(rows))
            wide = len(behaviour[0])
            # Each edge is on a run of at most as many actions as there are states and one.
            found = self.by_state(behaviour, 6)
            vectors = [[one - less for one, less in zip(more, many[0])] for many in found.values() for more in many]
            space = null_space(vectors, wide)
            self.same(len(rows), len(space))
            self.assertEqual(plain_rows(rows), plain_rows(space))
            if rows:
                self.same(reduced(rows), rows)
            for row in rows:
                for state, many in found.items():
                    sums = {product(row, one) for one in many}
                    self.same([told_value(behaviour, row, state)], sorted(sums))
        self.assertTrue({0, 1, 2} <= kinds_of, kinds_of)

    def test_not_told(self):
        chance = random.Random(249)
        found = {True: 0, False: 0}
        for behaviour in behaviours(250, 300, size=4, more=3):
            u = tuple(chance.randint(-1, 1) for _ in behaviour[0])
            seen = self.by_state(behaviour, 6)
            told = all(len({product(u, one) for one in many}) == 1 for many in seen.values())
            found[told] += 1
            state = chance.randrange(behaviour[1])
            if told:
                self.same(told_value(behaviour, u, state), product(u, seen[state][0]))
            else:
                self.fails(InvalidOperation, told_value, behaviour, u, state)
        self.assertTrue(min(found.values()) > 50, found)

    def test_edges(self):
        self.same(told_sums(NOTHING), ((1,),))
        self.same(told_sums(LOOP), ())
        self.same(told_sums((FIVE, 1, ())), tuple(tuple(int(at == other) for other in range(5)) for at in range(5)))
        self.same(told_sums((FIVE, 1, tuple((0, action, 0) for action in FIVE))), ())
        two = behaviour_of(CP, (0, "c", 1), (0, "c", 2), (1, "p", 3), (2, "c", 3))
        self.same(told_sums(two), ((1, 1),))
        both = behaviour_of(CP, (0, "c", 1), (0, "p", 1))
        self.same(told_sums(both), ((1, 1),))
        self.same(told_value(LOOP, (0,), 0), 0)
        self.same(told_value(log_of(("a",), ("a", "a")), (-FORTY,), 2), -2 * FORTY)
        self.fails(InvalidOperation, told_value, LOOP, (1,), 0)

    def test_errors(self):
        for value in NO_BEHAVIOURS:
            self.fails(InvalidBehaviour, told_sums, value)
            self.fails(InvalidBehaviour, told_value, value, None, None)
        for value in kinds():
            if not (isinstance(value, tuple) and len(value) == 1 and is_int(value[0])):
                self.fails(InvalidVector, told_value, NOTHING, value, None)
            if not is_int(value) or value != 0:
                self.fails_with(InvalidNumber, "value", value, told_value, NOTHING, (0,), value)
            if not is_int(value) or value not in (0, 1):
                self.fails_with(InvalidNumber, "value", value, told_value, TURN, (0, 0), value)
        wrong = [("behaviour", None, InvalidBehaviour, None), ("u", (0,), InvalidVector, None), ("state", 2, InvalidNumber, "value"),
                 ("u", (1, 1), InvalidOperation, None)]
        self.ordered(told_value, {"behaviour": TURN, "u": (1, -1), "state": 1}, wrong)
        self.leaves(told_sums, TWO)

    def test_many_small_calls(self):
        start = time.process_time()
        for _ in range(3000):
            told_sums(TWO)
            least_sum(TWO, (1, -1, 0), before="x")
            strictest_place(TURN, (-1, 1))
        self.assertTrue(time.process_time() - start < 10)
        many = behaviour_of(FIVE, *[(state, FIVE[at], 5 * state % 149 + at) for state in range(30) for at in range(5)])
        told_sums(many)


if __name__ == "__main__":
    unittest.main()
