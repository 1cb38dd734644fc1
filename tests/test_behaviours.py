"""Tests of leastnet.seen.behaviours: [0.12], [5.1] and stage 5."""

import random
import unittest

from leastnet.errors import InvalidAlphabet, InvalidBehaviour, InvalidNumber, InvalidOperation, InvalidWord, TooMany
from leastnet.seen import behaviours as module
from leastnet.seen.behaviours import all_united, behaviour_from, behaviour_of, followers, is_behaviour, is_run, log_of
from leastnet.seen.behaviours import logs_from, run_difference, runs, seen_steps, settled, states_after, united
from helpers import FORTY, Case, kinds, same
from reference import AB, ABX, CP, FIVE, NO_BEHAVIOURS, NOTHING, TURN, TWO, behaviours, counts, words
import reference

RIGHT = (NOTHING, (AB, 2, ((0, "a", 1), (1, "b", 0))))  # the behaviours among the kinds


def cycle(many, alphabet=("a",), more=()):
    """Return a circle of so many states, and more edges."""
    return alphabet, many, tuple(sorted({(state, "a", (state + 1) % many) for state in range(many)} | set(more)))


def is_edge(value):
    """A triple of the alphabet with the actions a and b."""
    if not isinstance(value, tuple) or len(value) != 3:
        return False
    return all(reference.is_int(one) and one >= 0 for one in value[::2]) and value[1] in AB


class IsBehaviour(Case):
    def test_constants(self):
        self.same((module.MAX_STATES, module.MAX_EDGES), (150, 750))

    def test_behaviours(self):
        for value in (TWO, TURN, NOTHING, (AB, 1, ((0, "a", 0), (0, "b", 0))), cycle(150), *behaviours(1, 50)):
            self.assertIs(is_behaviour(value), True)

    def test_no_behaviours(self):
        for value in NO_BEHAVIOURS:
            self.assertIs(is_behaviour(value), False, value)
        self.answers(is_behaviour, lambda value: any(same(value, one) for one in RIGHT))
        self.answers(lambda value: is_behaviour((value, 1, ())), lambda value: value in (("a",), ("solution",)))
        self.answers(lambda value: is_behaviour((AB, value, ())), lambda value: same(value, 1))
        self.answers(lambda value: is_behaviour((AB, 1, value)), lambda value: same(value, ()))
        self.answers(lambda value: is_behaviour((AB, 1, (value,))), lambda value: False)
        self.answers(lambda value: is_behaviour((AB, 1, ((value, "a", 0),))), lambda value: same(value, 0))
        self.answers(lambda value: is_behaviour((AB, 1, ((0, value, 0),))), lambda value: same(value, "a"))
        self.answers(lambda value: is_behaviour((AB, 1, ((0, "a", value),))), lambda value: same(value, 0))

    def test_limits(self):
        states = cycle(151)
        self.assertIs(is_behaviour(states), False)
        edges = [(state, action, target) for state in range(13) for action in FIVE for target in range(12)]
        for many in (749, 750, 751):
            self.assertIs(is_behaviour((FIVE, 13, tuple(edges[-many:]))), False)
            chosen = tuple(sorted({*edges[:many - 1], (1, "a", 12)}))
            self.assertIs(is_behaviour((FIVE, 13, chosen)), len(chosen) <= 750, many)

    def test_states_that_are_not_reached(self):
        self.assertIs(is_behaviour((AB, 3, ((0, "a", 1), (1, "a", 0), (2, "a", 2)))), False)
        self.assertIs(is_behaviour((AB, 3, ((0, "a", 2), (2, "a", 1)))), True)

    def test_errors_everywhere(self):
        calls = (
            lambda value: is_run(value, None), lambda value: states_after(value, None), lambda value: followers(value, None),
            lambda value: next(runs(value, longest=None)), lambda value: next(seen_steps(value, longest=None)), settled, united,
            lambda value: all_united((value,)), lambda value: united(NOTHING, TWO, value), lambda value: run_difference(value, None),
            lambda value: run_difference(TWO, value), lambda value: all_united((TWO, TURN, value)),
        )
        for call in calls:
            for value in NO_BEHAVIOURS:
                self.fails(InvalidBehaviour, call, value)
            for value in kinds():
                if not any(same(value, one) for one in RIGHT):
                    self.fails(InvalidBehaviour, call, value)
        for value in kinds():
            if value.__class__ is not tuple or value == ():
                self.fails(InvalidBehaviour, all_united, value)


class Logs(Case):
    def test_examples(self):
        self.same(log_of(ABX, ("a", "a", "x"), ("b", "b", "x")), TWO)
        self.same(logs_from(ABX, (("b", "b", "x"), ("a",), ("a", "a", "x"), ())), TWO)

    def test_without_words(self):
        for call in (log_of(AB), log_of(AB, ()), logs_from(AB, ()), logs_from(AB, ((), ()))):
            self.same(call, (AB, 1, ()))

    def test_runs_are_the_beginnings(self):
        chance = random.Random(51)
        for _ in range(100):
            chosen = tuple(
                tuple(chance.choice(ABX) for _ in range(chance.randint(0, 5))) for _ in range(chance.randint(0, 5))
            )
            found = logs_from(ABX, chosen)
            self.same(found, log_of(ABX, *chosen))
            self.assertIs(is_behaviour(found), True)
            beginnings = {word[:many] for word in chosen for many in range(len(word) + 1)} | {()}
            self.assertEqual({word for word in reference.runs(found, 6)}, beginnings)
            self.same(found, settled(found))

    def test_limits(self):
        self.same(log_of(AB, ("a",) * 149)[1], 150)
        self.fails_with(TooMany, "limit", 150, log_of, AB, ("a",) * 150)
        self.fails_with(TooMany, "limit", 150, logs_from, AB, (("a",) * 200,))
        # One word for each way to begin, and one common end.
        alike = tuple(word + ("a",) * 140 for word in words(AB, 6) if len(word) == 6)
        self.same(log_of(AB, *alike)[1], 147)
        self.fails(InvalidWord, log_of, AB, ("a",) * 201)

    def test_wrong_arguments(self):
        for value in kinds():
            if value not in (("a",), ("solution",)):
                self.fails(InvalidAlphabet, log_of, value, None)
                self.fails(InvalidAlphabet, logs_from, value, None)
            if value not in ((), ("a",), ("a", "a")):
                self.fails(InvalidWord, log_of, ("a",), value)
                self.fails(InvalidWord, logs_from, ("a",), (("a",) * 200, value))
            if value not in ((), ((),), ((), ()), (("a",),)):
                self.fails(InvalidWord, logs_from, ("a",), value)


class Edges(Case):
    def test_examples(self):
        self.same(behaviour_of(CP, (0, "p", 1), (1, "c", 0)), TURN)
        self.same(behaviour_from(CP, ((1, "c", 0), (0, "p", 1), (1, "c", 0))), TURN)
        self.same(behaviour_of(("a",)), NOTHING)
        self.same(behaviour_from(("a",), ()), NOTHING)

    def test_what_is_not_reached(self):
        self.same(behaviour_of(AB, (1, "a", 0), (2, "b", 2)), (AB, 1, ()))
        self.same(behaviour_of(AB, (7, "a", 9), (0, "b", 7), (8, "a", 0)), (AB, 3, ((0, "b", 1), (1, "a", 2))))
        self.same(behaviour_of(AB, (0, "a", FORTY), (FORTY, "b", 5)), (AB, 3, ((0, "a", 2), (2, "b", 1))))

    def test_renumbered_in_ascending_order(self):
        chance = random.Random(52)
        for behaviour in behaviours(53, 60):
            alphabet, size, edges = behaviour
            names = [0, *sorted(chance.sample(range(1, 10 ** 6), size - 1))]
            apart = [(names[state], action, names[target]) for state, action, target in edges]
            others = [(10 ** 7 + chance.randrange(3), alphabet[0], chance.choice(names)) for _ in range(3)]
            mixed = apart + others + apart[:2]
            chance.shuffle(mixed)
            self.same(behaviour_of(alphabet, *mixed), behaviour)
            self.leaves(behaviour_from, alphabet, tuple(mixed))

    def test_limits(self):
        line = tuple((state, "a", state + 1) for state in range(149))
        self.same(behaviour_from(AB, line)[1], 150)
        self.fails_with(TooMany, "limit", 150, behaviour_from, AB, (*line, (0, "b", 150)))
        self.same(behaviour_from(AB, (*line, (151, "b", 150)))[1], 150)
        edges = tuple((state, action, target) for state in range(12) for action in FIVE for target in range(13))
        self.assertEqual(len(edges), 780)
        self.same(len(behaviour_from(FIVE, edges[:750] + edges[:50])[2]), 750)
        self.fails_with(TooMany, "limit", 750, behaviour_from, FIVE, edges[:751])
        both = edges + tuple((state, "a", state + 1) for state in range(12, 160))
        self.fails_with(TooMany, "limit", 150, behaviour_from, FIVE, both)
        self.same(len(behaviour_from(FIVE, edges[:750] + tuple((200, "a", state) for state in range(500)))[2]), 750)

    def test_wrong_arguments(self):
        line = tuple((state, "a", state + 1) for state in range(160))
        for value in kinds():
            if value not in (("a",), ("solution",)):
                self.fails(InvalidAlphabet, behaviour_of, value, None)
                self.fails(InvalidAlphabet, behaviour_from, value, None)
            if not is_edge(value):
                self.fails(InvalidBehaviour, behaviour_of, AB, value)
                self.fails(InvalidBehaviour, behaviour_from, AB, (*line, value))
            if value.__class__ is not tuple:
                self.fails(InvalidBehaviour, behaviour_from, AB, value)
            number = reference.is_int(value) and value >= 0
            for edge in ((value, "a", 0), (0, "a", value)):
                if number:
                    behaviour_of(AB, edge)
                else:
                    self.fails(InvalidBehaviour, behaviour_of, AB, edge)
            if value not in ("a", "b"):
                self.fails(InvalidBehaviour, behaviour_of, AB, (0, value, 0))
        for edge in ((0, "a"), (0, "a", 1, 2), [0, "a", 1], (-1, "a", 0), (0, "c", 0), (True, "a", 0), (5, "c", 5)):
            self.fails(InvalidBehaviour, behaviour_of, AB, edge)


class Runs(Case):
    def test_is_run(self):
        for behaviour in behaviours(54, 60):
            for word in words(behaviour[0], 4):
                self.assertIs(is_run(behaviour, word), bool(reference.states(behaviour, word)))
        self.answers(lambda value: is_run(NOTHING, value), lambda value: same(value, ()))
        self.answers(lambda value: is_run(cycle(3), value), lambda value: value in ((), ("a",), ("a", "a")))

    def test_of_any_length(self):
        turn = ("p", "c") * 2000
        self.assertIs(is_run(TURN, turn), True)
        self.assertIs(is_run(TURN, turn + ("c",)), False)
        self.assertIs(is_run(TURN, ("c",) + turn), False)
        self.assertIs(is_run(TURN, turn + ("x",)), False)

    def test_states_and_followers(self):
        for behaviour in behaviours(55, 60):
            for word in words(behaviour[0], 4):
                self.same(states_after(behaviour, word), tuple(sorted(reference.states(behaviour, word))))
                self.same(followers(behaviour, word), reference.followers(behaviour, word))
        self.same(states_after(TURN, ("c",)), ())
        self.same(followers(TURN, ("c",)), ())
        self.same(states_after(TURN, ("p", "c") * 100), (0,))
        self.same(followers(TURN, ("p", "c")), ("p",))

    def test_wrong_words(self):
        for call in (states_after, followers):
            self.refuses(InvalidWord, lambda value: call(NOTHING, value), lambda value: value in ((), ("a",), ("a", "a")))
            self.fails(InvalidWord, call, TURN, ("p", "c") * 100 + ("p",))
            wrong = [("behaviour", (AB, 2, ()), InvalidBehaviour, None), ("word", ("c", "d"), InvalidWord, None)]
            self.ordered(call, {"behaviour": TURN, "word": ("p",)}, wrong)

    def test_runs(self):
        self.same(list(runs(TURN, longest=2)), [(), ("p",), ("p", "c")])
        for behaviour in behaviours(56, 60):
            for longest in range(5):
                self.same(list(runs(behaviour, longest=longest)), reference.runs(behaviour, longest))
        self.same(list(runs(NOTHING, longest=8)), [()])
        self.assertEqual(sum(1 for _ in runs((AB, 1, ((0, "a", 0), (0, "b", 0))), longest=8)), 511)

    def test_seen_steps(self):
        for behaviour in behaviours(57, 60):
            alphabet = behaviour[0]
            for longest in range(5):
                wanted = {
                    (counts(alphabet, word[:at]), word[at])
                    for word in reference.runs(behaviour, longest) for at in range(len(word))
                }
                self.same(list(seen_steps(behaviour, longest=longest)), sorted(wanted))
        self.same(list(seen_steps(TURN, longest=0)), [])
        self.same(list(seen_steps(TURN, longest=2)), [((0, 0), "p"), ((0, 1), "c")])
        self.same(list(seen_steps(TWO, longest=8))[-1], ((2, 0, 0), "x"))

    def test_generators(self):
        for call in (runs, seen_steps):
            for value in kinds():
                if reference.is_int(value) and 0 <= value <= 8:
                    list(call(TURN, longest=value))
                else:
                    found = call(TURN, longest=value)
                    self.fails_with(InvalidNumber, "value", value, next, found)
            self.fails_with(InvalidNumber, "value", 9, next, call(TURN, longest=9))
            for value in NO_BEHAVIOURS:
                self.fails(InvalidBehaviour, next, call(value, longest=9))
            with self.assertRaises(TypeError):
                call(TURN, 3)
            with self.assertRaises(TypeError):
                call(TURN)
            wanted = list(call(TWO, longest=3))
            one, other = call(TWO, longest=3), call(TWO, longest=3)
            self.same([found for pair in zip(one, other) for found in pair], [found for found in wanted for _ in range(2)])


class Settled(Case):
    def numbered(self, behaviour):
        """The states are numbered by the first words to them, with one edge for each state and action."""
        alphabet, size, edges = behaviour
        self.assertEqual(len({edge[:2] for edge in edges}), len(edges))
        steps = {edge[:2]: edge[2] for edge in edges}
        order = [0]
        for state in order:
            for action in alphabet:
                target = steps.get((state, action))
                if target is not None and target not in order:
                    order.append(target)
        self.assertEqual(order, list(range(size)))

    def test_same_runs_and_as_few_states_as_possible(self):
        for behaviour in behaviours(58, 150):
            found = settled(behaviour)
            self.assertIs(is_behaviour(found), True)
            self.numbered(found)
            self.assertEqual(reference.runs(found, 6), reference.runs(behaviour, 6))
            self.assertEqual(run_difference(found, behaviour), None)
            self.same(settled(found), found)
            alphabet, size, edges = found
            # From each state other words are possible; words as long as there are states tell all apart.
            kept = [frozenset(word for word in words(alphabet, min(size, 6)) if reference.states(found, word, (state,)))
                    for state in range(size)]
            if size <= 6:
                self.assertEqual(len(set(kept)), size)

    def test_examples(self):
        self.same(settled(TWO), TWO)
        self.same(settled(cycle(150)), (("a",), 1, ((0, "a", 0),)))
        self.same(settled(NOTHING), NOTHING)
        self.same(settled((AB, 3, ((0, "a", 1), (0, "a", 2), (1, "a", 0), (2, "b", 0)))),
                  (AB, 2, ((0, "a", 1), (1, "a", 0), (1, "b", 0))))
        self.same(settled((AB, 3, ((0, "a", 2), (0, "b", 1), (1, "a", 1)))), (AB, 3, ((0, "a", 1), (0, "b", 2), (2, "a", 2))))

    def test_united(self):
        for one, other in zip(behaviours(59, 80, alphabets=(AB,)), behaviours(60, 80, alphabets=(AB,))):
            found = united(one, other)
            self.numbered(found)
            wanted = {*reference.runs(one, 6), *reference.runs(other, 6)}
            self.assertEqual(set(reference.runs(found, 6)), wanted)
            self.same(found, united(other, one))
            self.same(found, settled(found))
            self.same(all_united((one, other, one)), found)
            self.same(all_united((one,)), settled(one))
            self.same(united(one), settled(one))

    def test_limit_of_sets(self):
        self.same(united(cycle(16), cycle(125)), (("a",), 1, ((0, "a", 0),)))
        self.fails_with(TooMany, "limit", 2000, united, cycle(23), cycle(87))
        # These sets are the subsets of many states: whether the word had an a so many places before.
        late = [(0, "a", 0), (0, "b", 0), (0, "a", 1)]
        for many, size in ((10, 1024), (12, 4096)):
            edges = late + [(state, action, state + 1) for state in range(1, many) for action in AB]
            if size <= 2000:
                self.same(settled(behaviour_of(AB, *edges)), (AB, 1, ((0, "a", 0), (0, "b", 0))))
            else:
                self.fails_with(TooMany, "limit", 2000, settled, behaviour_of(AB, *edges))

    def test_limit_of_states(self):
        word = ("a",) * 149
        self.same(united(log_of(AB, word), log_of(AB, ("b",)))[1], 150)
        self.fails_with(TooMany, "limit", 150, united, log_of(AB, word), log_of(AB, ("b", "b")))
        # Each subset of the last places that had an a is a state of its own: c shows the first of these places.
        letters = ("a", "b", "c")
        for many, size in ((5, 32), (7, 128), (8, 256), (10, 1024)):
            edges = [(0, "a", 0), (0, "b", 0), (0, "a", 1), (many, "c", 0)]
            edges += [(state, action, state + 1) for state in range(1, many) for action in AB]
            if size <= 150:
                self.same(settled(behaviour_of(letters, *edges))[1], size)
            else:
                self.fails_with(TooMany, "limit", 150, settled, behaviour_of(letters, *edges))

    def test_different_alphabets(self):
        self.fails(InvalidOperation, united, TURN, TWO)
        self.fails(InvalidOperation, all_united, (TURN, TURN, TWO))
        self.fails(InvalidOperation, run_difference, TURN, TWO)
        self.fails(InvalidBehaviour, united, TURN, TWO, None)
        self.fails(InvalidBehaviour, run_difference, TURN, None)
        self.fails(InvalidBehaviour, run_difference, None, TURN)
        self.fails(InvalidOperation, united, cycle(23), cycle(87), TURN)
        self.fails(InvalidOperation, run_difference, cycle(87), (AB, 1, ()))

    def test_unchanged(self):
        self.leaves(settled, TWO)
        self.leaves(united, TWO, log_of(ABX, ("x",)))
        self.leaves(run_difference, TURN, log_of(CP, ("p",)))


class Differences(Case):
    def test_examples(self):
        self.same(run_difference(TURN, log_of(CP, ("p", "c"))), ("p", "c", "p"))
        self.same(run_difference(TURN, TURN), None)
        self.same(run_difference(NOTHING, cycle(1)), ("a",))

    def test_first_word(self):
        for one, other in zip(behaviours(61, 200, alphabets=(AB,)), behaviours(62, 200, alphabets=(AB,))):
            found = run_difference(one, other)
            self.same(run_difference(other, one), found)
            wanted = [word for word in words(AB, 7) if bool(reference.states(one, word)) != bool(reference.states(other, word))]
            if wanted:
                self.same(found, wanted[0])
            else:
                self.assertTrue(found is None or len(found) > 7)

    def test_limit_of_pairs(self):
        self.same(run_difference(cycle(16), cycle(125)), None)
        self.fails_with(TooMany, "limit", 2000, run_difference, cycle(23), cycle(87))
        self.fails_with(TooMany, "limit", 2000, run_difference, cycle(149), cycle(150))

    def two_circles(self, at):
        """Return a behaviour with the runs a .. a of any length, each but the one of length `at` followed by b.

        There is a new set of states for each length from 0 to 2000.
        """
        edges = [(0, "a", 1 + 1 % 16), (0, "a", 17 + 1 % 125), (0, "b", 142)]
        for first, many in ((1, 16), (17, 125)):
            for number in range(many):
                edges.append((first + number, "a", first + (number + 1) % many))
                if number != at % many:
                    edges.append((first + number, "b", 142))
        return behaviour_of(AB, *edges)

    def test_difference_at_the_limit(self):
        always = behaviour_of(AB, (0, "a", 0), (0, "b", 1))
        for at in (1, 2, 100, 1996, 1997):
            # Before a .. a b there is also a .. a a; with b there are as many pairs as its length and one more.
            self.same(run_difference(self.two_circles(at), always), ("a",) * at + ("b",))
            self.same(run_difference(always, self.two_circles(at)), ("a",) * at + ("b",))
        for at in (1998, 1999):
            self.fails_with(TooMany, "limit", 2000, run_difference, self.two_circles(at), always)
        self.fails_with(TooMany, "limit", 2000, settled, self.two_circles(1))

    def test_pairs_behind_the_difference_do_not_count(self):
        first = behaviour_of(AB, *[(state, "a", (state + 1) % 23) for state in range(23)], (0, "b", 30))
        second = behaviour_of(AB, *[(state, "a", (state + 1) % 87) for state in range(87)])
        self.same(run_difference(first, second), ("b",))
        self.fails_with(TooMany, "limit", 2000, run_difference, cycle(23), cycle(87))


if __name__ == "__main__":
    unittest.main()
