"""Tests of leastnet.learner.learner: [0.2], [0.16], [16.1], [16.2]."""

import random
import time
import unittest

from leastnet.base.words import is_alphabet
from leastnet.compare.covers import have_same_rules
from leastnet.compare.wishes import barring, is_barring
from leastnet.errors import Avoidable, InvalidAlphabet, InvalidBehaviour, InvalidEdit, InvalidNumber, InvalidOperation, InvalidWord
from leastnet.errors import NothingToUndo, TooMany, UnknownName
from leastnet.learner.learner import Learner
from leastnet.seen.behaviours import all_united, behaviour_of, is_behaviour, log_of, logs_from, settled
from leastnet.seen.respect import respects
from leastnet.steps.least import least_net
from leastnet.steps.steps import is_unavoidable, is_word_paper, unavoidable_followers
from helpers import Case, kinds
from reference import AB, ABX, CP, FIVE, NO_BEHAVIOURS, TURN, TWO, allows_word, behaviours, words
from test_covers import chance_pairs
from test_least import MANY
import papers

LOOP = (("a",), 1, ((0, "a", 0),))
NEVER = (AB, 1, ())


def is_name(value):
    """[16.1]"""
    return isinstance(value, str) and 1 <= len(value) <= 8 and all(one in "abcdefghijklmnopqrstuvwxyz" for one in value)


def are_words(alphabet, value):
    """Tell whether a value is a tuple of words."""
    return isinstance(value, tuple) and all(papers.is_word(alphabet, one) and len(one) <= 200 for one in value)


def hard_log(many):
    """Return a behaviour whose runs lead to very many sets of states: they tell which of the last actions are b."""
    return AB, many + 1, tuple(sorted([(0, "a", 0), (0, "b", 0), (0, "b", 1), *[
        (state, action, state + 1) for state in range(1, many) for action in AB
    ]]))


class Model:
    """A plain learner: all is reckoned anew from the logs."""

    def __init__(self, alphabet):
        self.alphabet = alphabet
        self.logs = {}
        self.done = []
        self.undone = []
        self.watched = {}

    def seen(self):
        """Return the united behaviour."""
        logs = tuple(self.logs.values())
        return all_united(logs) if logs else (self.alphabet, 1, ())

    def status(self, word):
        """Return the status of a word."""
        return "unavoidable" if is_unavoidable(self.seen(), word) else "avoidable"

    def news(self):
        """Return the news, and keep the new statuses."""
        found = []
        for word in sorted(self.watched):
            status = self.status(word)
            if status != self.watched[word]:
                found.append((word, self.watched[word], status))
                self.watched[word] = status
        return tuple(found)

    def apply(self, *edits):
        """Make a group of edits that are right."""
        if not edits:
            return ()
        before = dict(self.logs)
        for edit in edits:
            self.logs.pop(edit[1], None)
            if edit[0] == "put":
                self.logs[edit[1]] = logs_from(self.alphabet, edit[2])
            elif edit[0] == "graph":
                self.logs[edit[1]] = settled(edit[2])
        self.done.append((edits, before, dict(self.logs)))
        self.undone = []
        return self.news()

    def undo(self, many):
        """Undo groups."""
        for _ in range(many):
            self.undone.append(self.done.pop())
            self.logs = dict(self.undone[-1][1])
        return self.news()

    def redo(self, many):
        """Make groups again."""
        for _ in range(many):
            self.done.append(self.undone.pop())
            self.logs = dict(self.done[-1][2])
        return self.news()


def state_of(learner):
    """Return all that can be seen of a learner, also what can be made again."""
    fresh = [learner.alphabet, learner.logs, learner.seen, learner.watched, learner.edits, learner.longest, len(learner), str(learner)]
    many = 0
    ahead = []
    try:
        while True:
            learner.redo()
            many += 1
            ahead.append((learner.edits, learner.logs))
    except NothingToUndo:
        learner.undo(many=many)
    return repr((fresh, ahead))


def some_edits(chance, alphabet, names):
    """Return a group of edits that are right if these names are there."""
    names = set(names)
    edits = []
    for _ in range(chance.choice((0, 1, 1, 1, 2, 3))):
        name = chance.choice(("one", "two", "b", "zz"))
        kind = chance.choice(("put", "put", "graph", "drop"))
        if kind == "drop" and name not in names:
            kind = "put"
        if kind == "put":
            edits.append(("put", name, tuple(
                tuple(chance.choice(alphabet) for _ in range(chance.randint(0, 4))) for _ in range(chance.randint(0, 3))
            )))
        elif kind == "graph":
            edits.append(("graph", name, chance.choice([one for one in behaviours(chance.randint(1, 10 ** 6), 12) if one[0] == alphabet] or [(alphabet, 1, ())])))
        else:
            edits.append(("drop", name))
        (names.discard if kind == "drop" else names.add)(name)
    return tuple(edits)


class Learning(Case):
    def test_examples(self):
        learner = Learner(ABX, first=(("a", "a", "x"),))
        found = [learner.watch(("a", "b")), learner.watch(("b", "b", "x")), learner.put("second", ("b", "b", "x"))]
        self.same(found, ["avoidable", "avoidable", ((("b", "b", "x"), "avoidable", "unavoidable"),)])
        found = [learner(("a",)), learner == Learner.of(ABX, {"both": TWO}), learner.undo(), str(learner), learner.edits]
        self.same(found, [("a",), True, ((("b", "b", "x"), "unavoidable", "avoidable"),), "learner with 1 logs", ()])

    def test_any_edits_against_a_plain_learner(self):
        chance = random.Random(281)
        for _ in range(40):
            alphabet = chance.choice((AB, ABX))
            learner, model = Learner(alphabet), Model(alphabet)
            for _ in range(25):
                self.one_move(chance, learner, model)
                self.same(learner.logs, {name: model.logs[name] for name in sorted(model.logs)})
                self.same(learner.seen, model.seen())
                self.same(learner.watched, tuple(sorted(model.watched)))
                self.same(learner.edits, tuple(group for group, _, _ in model.done))
                self.same((len(learner), bool(learner), str(learner)), (len(model.logs), bool(model.logs), f"learner with {len(model.logs)} logs"))
            # A learner that has the same logs from the beginning has learned the same.
            fresh = Learner.of(alphabet, learner.logs)
            self.same((fresh.logs, fresh.seen), (learner.logs, learner.seen))
            self.assertTrue(fresh == learner)
            self.assertTrue(fresh.net() == learner.net() == least_net(learner.seen))

    def one_move(self, chance, learner, model):
        """Do the same with both learners, and compare what they return."""
        alphabet = model.alphabet
        move = chance.randrange(7)
        word = tuple(chance.choice(alphabet) for _ in range(chance.randint(0, 4)))
        if move < 3:
            edits = some_edits(chance, alphabet, model.logs)
            twin = learner.apply(*edits) if chance.random() < 0.5 else learner.apply_all(edits)
            self.same(twin, model.apply(*edits))
        elif move == 3:
            many = chance.randint(0, min(3, len(model.done)))
            self.same(learner.undo(many=many), model.undo(many))
        elif move == 4:
            many = chance.randint(0, min(3, len(model.undone)))
            self.same(learner.redo(many=many), model.redo(many))
        elif word in model.watched:
            self.fails(InvalidOperation, learner.watch, word)
            self.same(learner.unwatch(word), None)
            del model.watched[word]
        else:
            self.fails(InvalidOperation, learner.unwatch, word)
            model.watched[word] = model.status(word)
            self.same(learner.watch(word), model.watched[word])

    def test_without_logs(self):
        learner = Learner(AB)
        self.same((learner.seen, learner.logs, learner.edits, learner.watched, learner.longest), (NEVER, {}, (), (), 200))
        self.same((len(learner), bool(learner), str(learner)), (0, False, "learner with 0 logs"))
        self.same(learner(()), ())
        self.same(learner.net().places, least_net(NEVER).places)
        self.same([learner.watch(()), learner.watch(("a",))], ["unavoidable", "avoidable"])
        self.same(learner.put("one", ("a",)), ((("a",), "avoidable", "unavoidable"),))
        self.same(learner.drop("one"), ((("a",), "unavoidable", "avoidable"),))
        self.same(learner.seen, NEVER)
        self.same(learner.put("none"), ())
        self.same((learner.logs, bool(learner)), ({"none": NEVER}, True))

    def test_one_edit_each(self):
        learner = Learner(ABX)
        self.same(learner.put("one", ("a",), ("b",)), ())
        self.same(learner.put_all("two", (("x",),)), ())
        self.same(learner.graph("three", TWO), ())
        self.same(learner.drop("two"), ())
        groups = ((("put", "one", (("a",), ("b",))),), (("put", "two", (("x",),)),), (("graph", "three", TWO),), (("drop", "two"),))
        self.same(learner.edits, groups)
        self.same(learner.logs, {"one": log_of(ABX, ("a",), ("b",)), "three": TWO})
        self.same(list(learner.logs), ["one", "three"])
        self.same([name in learner for name in ("one", "two", "three")], [True, False, True])
        learner.put("one", ("x",))
        self.same(learner.logs["one"], log_of(ABX, ("x",)))

    def test_groups_are_made_whole(self):
        learner = Learner(ABX, one=(("a",),))
        learner.apply(("put", "two", (("b",),)), ("drop", "one"), ("put", "one", (("x",),)), ("drop", "two"))
        self.same(learner.logs, {"one": log_of(ABX, ("x",))})
        self.same(len(learner.edits), 1)
        learner.undo()
        self.same(learner.logs, {"one": log_of(ABX, ("a",))})
        before = state_of(learner)
        self.fails(UnknownName, learner.apply, ("put", "two", (("b",),)), ("drop", "one"), ("drop", "one"))
        self.same(state_of(learner), before)
        self.fails(UnknownName, learner.apply, ("drop", "two"), ("put", "two", ()))

    def test_no_edits_are_no_group(self):
        learner = Learner(AB)
        learner.put("one", ("a",))
        learner.undo()
        self.same((learner.apply(), learner.apply_all(()), learner.undo(many=0), learner.redo(many=0)), ((), (), (), ()))
        self.same(learner.edits, ())
        learner.redo()
        self.same(len(learner.edits), 1)

    def test_refused_groups_forget_nothing(self):
        learner = Learner(AB)
        learner.put("one", ("a",))
        learner.put("two", ("b",))
        learner.undo()
        for wrong in ((("drop", "x"),), (("put", "one", ("a",)),), "x", (("put", "A", ()),), (("graph", "a", None),)):
            with self.assertRaises((InvalidEdit, InvalidWord, InvalidBehaviour, UnknownName)):
                learner.apply_all(wrong)
        self.fails(TooMany, learner.graph, "x", hard_log(13))
        learner.redo()
        self.same(list(learner.logs), ["one", "two"])
        learner.undo(many=2)
        learner.put("new")
        self.fails_with(NothingToUndo, "many", 1, learner.redo)
        self.same(list(learner.logs), ["new"])

    def test_logs_of_the_beginning_stay(self):
        learner = Learner(AB, one=(("a",),), two=NEVER)
        self.fails_with(NothingToUndo, "many", 1, learner.undo)
        self.same(learner.edits, ())
        learner.drop("one")
        learner.undo()
        self.same(list(learner.logs), ["one", "two"])

    def test_news(self):
        learner = Learner(ABX)
        for word in (("x",), ("b",), ("a", "b"), ("a",)):
            learner.watch(word)
        news = learner.put("one", ("a", "b"), ("b",))
        self.same(news, tuple((word, "avoidable", "unavoidable") for word in (("a",), ("a", "b"), ("b",))))
        self.same(learner.watched, (("a",), ("a", "b"), ("b",), ("x",)))
        self.same(learner.put("two", ("x",)), ((("x",), "avoidable", "unavoidable"),))
        self.same(learner.undo(many=2), tuple((word, "unavoidable", "avoidable") for word in (("a",), ("a", "b"), ("b",), ("x",))))
        self.same(len(learner.redo(many=2)), 4)
        # A status that changes and changes back is no news, and watching is not undone.
        self.same(learner.apply(("drop", "two"), ("put", "three", (("x",),))), ())
        learner.unwatch(("x",))
        learner.watch(())
        self.same(len(learner.undo(many=3)), 3)
        self.same(learner.watched, ((), ("a",), ("a", "b"), ("b",)))

    def test_answers(self):
        chance = random.Random(282)
        found = {True: 0, False: 0}
        for behaviour in behaviours(283, 60):
            alphabet = behaviour[0]
            learner = Learner.of(alphabet, {"one": behaviour, "two": (tuple(chance.choice(alphabet) for _ in range(3)),)})
            seen = learner.seen
            self.same(seen, all_united((behaviour, learner.logs["two"])))
            for word in words(alphabet, 3):
                paper = learner.paper(word)
                self.assertIs(is_word_paper(seen, word, paper), True)
                found[paper[0] == "mixtures"] += 1
                self.same(paper[0] == "mixtures", is_unavoidable(seen, word))
                if paper[0] == "mixtures":
                    self.same(learner(word), unavoidable_followers(seen, word))
                else:
                    place = self.fails(Avoidable, learner, word).place
                    self.assertIs(respects(seen, place), True)
                    self.assertFalse(allows_word(alphabet, place, word))
            some = [word for word in words(alphabet, 2) if chance.random() < 0.3]
            paper = learner.bar(*some)
            self.assertIs(is_barring(seen, tuple(some), paper), True)
            self.same(paper[0], barring(seen, *some)[0])
            self.assertTrue(learner.net() == least_net(seen))
        self.assertTrue(min(found.values()) > 100, found)

    def test_equal_calls_return_equal_results(self):
        chance = random.Random(284)
        for behaviour in behaviours(285, 60):
            alphabet = behaviour[0]
            one, other = Learner(alphabet, log=behaviour), Learner(alphabet, log=behaviour)
            some = words(alphabet, 3)
            first = [one.paper(word) for word in some]
            chance.shuffle(some)
            for word in some:
                other.paper(word)
                other.bar(word)
                if is_unavoidable(behaviour, word):
                    self.same(one(word), other(word))
                else:
                    self.same(self.fails(Avoidable, one, word).place, self.fails(Avoidable, other, word).place)
            self.same([other.paper(word) for word in words(alphabet, 3)], first)
            self.same([one.paper(word) for word in words(alphabet, 3)], first)
            self.assertTrue(one.bar(*some[:5]) == other.bar(*some[:5]) == one.bar(*some[:5]))

    def test_equal_learners(self):
        found = {True: 0, False: 0}
        for first, second in [*chance_pairs(286, 300), (TURN, (CP, 4, ((0, "p", 1), (1, "c", 2), (2, "p", 3), (3, "c", 0))))]:
            one, other = Learner(first[0], log=first), Learner(first[0], log=second, more=())
            wanted = have_same_rules(first, second)
            found[wanted] += 1
            self.assertIs(one == other, wanted, (first, second))
            self.assertIs(other == one, wanted)
            self.assertIs(one != other, not wanted)
        self.assertTrue(min(found.values()) > 30, found)
        ways = Learner(ABX, log=(("a", "a", "x"), ("b", "b", "x"), ("a", "b")))
        more = Learner(ABX, log=(("a", "a", "x"), ("b", "b", "x"), ("a", "b", "x")))
        self.assertTrue(ways.seen != more.seen and ways == more)
        more.watch(())
        more.longest = 5
        self.assertTrue(ways == more)
        self.assertFalse(Learner(AB) == Learner(ABX))
        for value in kinds():
            self.assertIs(Learner(("a",)) == value, isinstance(value, Learner) and value.alphabet == ("a",) and not value)
            self.assertIs(Learner(CP) == value, False)

    def test_equal_learners_that_have_seen_other_runs(self):
        others = 0
        chance = random.Random(287)
        for behaviour in [*behaviours(288, 150), behaviour_of(AB, (0, "a", 0), (0, "a", 1), (1, "b", 0)), TURN]:
            alphabet = behaviour[0]
            more = tuple(word for word in words(alphabet, 4) if is_unavoidable(behaviour, word))
            one, other = Learner(alphabet, log=behaviour), Learner(alphabet, log=behaviour, more=more)
            others += one.seen != other.seen
            self.assertTrue(one == other)
            self.assertTrue(other == one)
            less = [word for word in words(alphabet, 4) if not is_unavoidable(behaviour, word)]
            if less:
                other.put("less", chance.choice(less))
                self.assertFalse(one == other)
                self.assertFalse(other == one)
        self.assertTrue(others > 10, others)

    def test_names(self):
        learner = Learner(("a",), one=(), a=())
        for value in kinds():
            self.assertIs(value in learner, value == "a")
        self.assertIs("one" in learner, True)
        with self.assertRaises(TypeError):
            iter(learner)
        with self.assertRaises(TypeError):
            list(learner)

    def test_nothing_gives_access(self):
        logs = {"one": (("a",),)}
        learner = Learner.of(AB, logs)
        logs["two"] = ()
        learner.logs["three"] = NEVER
        learner.logs.clear()
        self.same(learner.logs, {"one": log_of(AB, ("a",))})
        for name in ("alphabet", "logs", "seen", "watched", "edits"):
            with self.assertRaises(AttributeError):
                setattr(learner, name, None)
        net = learner.net()
        self.assertTrue(net == learner.net())


class During(Case):
    def test_result(self):
        learner = Learner(ABX, one=(("a", "a", "x"),))
        before = state_of(learner)
        found = learner.during((("put", "two", (("b", "b", "x"),)),), lambda value: (value is learner, value.seen, value.edits))
        self.same(found, (True, TWO, ((("put", "two", (("b", "b", "x"),)),),)))
        self.same(state_of(learner), before)
        self.same(learner.during((), lambda value: list(value.logs)), ["one"])

    def test_everything_is_put_back(self):
        learner = Learner(ABX, one=(("a",),))
        learner.watch(("a",))
        learner.watch(("b",))
        learner.put("two", ("b",))
        learner.put("three", ("x",))
        learner.undo()
        learner.longest = 7
        before = state_of(learner)

        def call(value):
            value.undo(many=2)
            value.unwatch(("a",))
            value.watch(("x",))
            value.drop("one")
            value.put("four", ("x", "x"))
            value.longest = 3
            value.during((("put", "five", ()),), lambda inner: inner.drop("four"))
            return value.watched, list(value.logs), value.longest

        edits = ("put", "six", (("a", "b"),)), ("drop", "two")
        self.same(learner.during(edits, call), ((("b",), ("x",)), ["four"], 3))
        self.same(state_of(learner), before)
        self.same(learner(()), ("a", "b"))
        self.same(learner.drop("two"), ((("b",), "unavoidable", "avoidable"),))

    def test_errors_are_passed_on(self):
        learner = Learner(AB, one=(("a",),))
        learner.watch(("b",))
        learner.put("two", ("b",))
        learner.undo()
        before = state_of(learner)

        def call(value):
            value.unwatch(("b",))
            value.set_longest(9)
            raise OSError("lost")

        with self.assertRaises(OSError):
            learner.during((("drop", "one"),), call)
        self.same(state_of(learner), before)
        self.fails(UnknownName, learner.during, (("drop", "one"),), lambda value: value.drop("one"))
        self.same(state_of(learner), before)

    def test_refused(self):
        learner = Learner(AB)
        learner.put("one", ("a",))
        before = state_of(learner)
        called = []
        for wrong, error in ((None, InvalidEdit), ((("drop", "x"),), UnknownName), ((("put", "one", ("a",)),), InvalidWord),
                             ((("graph", "x", hard_log(13)),), TooMany)):
            self.fails(error, learner.during, wrong, called.append)
        self.same((called, state_of(learner)), ([], before))


class Longest(Case):
    def test_longest(self):
        learner = Learner(AB, one=(("a", "a"), ("b",)), two=log_of(AB, ("a",) * 50))
        for value in (200, 2, 50, 199):
            learner.longest = value
            self.same(learner.longest, value)
        for value in (1, 0):
            self.fails(InvalidOperation, learner.set_longest, value)
            with self.assertRaises(InvalidOperation):
                learner.longest = value
        self.same(learner.longest, 199)
        learner.drop("one")
        self.same(learner.set_longest(0), None)
        self.same(learner.longest, 0)
        self.fails(InvalidWord, learner.put, "three", ("a",))
        self.same(learner.put("three", (), ()), ())
        self.same(learner.graph("four", TURN_AB), ())
        learner = Learner(AB, one=(), two=TURN_AB)
        learner.put("three")
        learner.set_longest(0)
        self.same(learner.longest, 0)

    def test_numbers(self):
        learner = Learner(AB)
        for value in [*kinds(), 199, 200, 201, 0, -1]:
            if value.__class__ is int and 0 <= value <= 200:
                learner.longest = value
                self.same(learner.longest, value)
            else:
                kept = learner.longest
                self.fails_with(InvalidNumber, "value", value, learner.set_longest, value)
                with self.assertRaises(InvalidNumber):
                    learner.longest = value
                self.same(learner.longest, kept)
        self.fails(InvalidNumber, Learner(AB, one=(("a",) * 9,)).set_longest, 201)

    def test_undo_does_not_look_at_it(self):
        learner = Learner(AB)
        learner.put("one", ("a",) * 5)
        learner.undo()
        learner.longest = 3
        self.fails(InvalidWord, learner.put, "two", ("a",) * 4)
        self.same(learner.redo(), ())
        self.same(learner.logs, {"one": log_of(AB, ("a",) * 5)})
        self.fails(InvalidOperation, learner.set_longest, 4)
        self.same(learner.longest, 3)
        learner.longest = 5
        # Longest speaks of words of logs alone.
        learner.watch(("a",) * 200)
        learner.paper(("a",) * 200)

    def test_the_least_length(self):
        learner = Learner(AB, one=(("a",) * 3, ("b",)), two=(("b",) * 7,))
        self.fails(InvalidOperation, learner.set_longest, 6)
        learner.set_longest(7)
        learner.put("two", ("b",))
        learner.set_longest(3)
        self.fails(InvalidOperation, learner.set_longest, 2)
        learner.undo()
        self.fails(InvalidOperation, learner.set_longest, 6)

    def test_lengths_of_logs(self):
        learner = Learner(("a",), one=(("a",) * 149,))
        self.fails(InvalidWord, learner.put, "two", ("a",) * 201)
        self.fails_with(TooMany, "limit", 150, learner.put, "two", ("a",) * 200)
        learner.longest = 149
        self.fails(InvalidWord, learner.put, "two", ("a",) * 150)


TURN_AB = behaviour_of(AB, (0, "a", 1), (1, "b", 0))


class Errors(Case):
    def test_alphabets(self):
        for value in kinds():
            if not is_alphabet(value):
                self.fails(InvalidAlphabet, Learner, value, A=None)
                self.fails(InvalidAlphabet, Learner.of, value, None)

    def test_logs_of_the_beginning(self):
        for value in kinds():
            right = isinstance(value, dict) and all(is_name(one) for one in value)
            if right and all(are_words(("a",), one) or is_behaviour(one) for one in value.values()):
                Learner.of(("a",), value)
            elif not isinstance(value, dict) or not all(isinstance(one, str) for one in value):
                self.fails(InvalidEdit, Learner.of, ("a",), value)
            good = are_words(("a",), value)
            if good or is_behaviour(value) and value[0] == ("a",):
                self.same(list(Learner(("a",), one=value).logs), ["one"])
            else:
                self.fails(InvalidBehaviour if is_behaviour(value) else InvalidWord, Learner, ("a",), one=value)
                self.fails(InvalidBehaviour if is_behaviour(value) else InvalidWord, Learner.of, ("a",), {"one": value})
        for value in NO_BEHAVIOURS:
            if not are_words(AB, value):
                self.fails(InvalidWord, Learner, AB, one=value)
        self.fails(InvalidEdit, Learner.of, AB, {"b": None, 1: None})
        self.fails(InvalidEdit, Learner, AB, Ab=())
        self.same(Learner.of(AB, {"self": (), "alphabet": (("a",),)}).logs, {"alphabet": log_of(AB, ("a",)), "self": NEVER})

    def test_order_of_the_beginning(self):
        # By ascending names; A stands before a, and what is made of the words comes behind all forms.
        long = (("a",) * 150,)
        self.fails(InvalidEdit, Learner.of, AB, {"a": (("x",),), "A": None})
        self.fails(InvalidWord, Learner.of, AB, {"b": TWO, "a": (("x",),)})
        self.fails(InvalidBehaviour, Learner.of, AB, {"b": (("x",),), "a": TWO})
        self.fails(InvalidWord, Learner.of, AB, {"a": long, "b": (("x",),)})
        self.fails_with(TooMany, "limit", 150, Learner.of, AB, {"b": hard_log(13), "a": long})
        self.fails_with(TooMany, "limit", 2000, Learner.of, AB, {"a": hard_log(13), "b": long})
        self.fails_with(TooMany, "limit", 5000, Learner, FIVE, one=MANY)

    def test_forms_of_edits(self):
        learner = Learner(("a",), a=())
        before = learner.edits, learner.logs
        for value in kinds():
            right = isinstance(value, tuple) and all(isinstance(one, tuple) and one[:1] in (("put",), ("drop",), ("graph",)) for one in value)
            if not right:
                self.fails(InvalidEdit, learner.apply_all, value)
                self.fails(InvalidEdit, learner.during, value, None)
            self.one_form(learner, value)
        self.same((learner.edits, learner.logs), before)

    def one_form(self, learner, value):
        """Try a value as one edit."""
        if isinstance(value, tuple) and (value[:1] == ("put",) and len(value) == 3 or value[:1] == ("drop",) and len(value) == 2
                                         or value[:1] == ("graph",) and len(value) == 3):
            learner.apply(value)
            learner.undo()
        else:
            self.fails(InvalidEdit, learner.apply, value)
            self.fails(InvalidEdit, learner.apply, ("put", "b", ()), value)
            # The forms of all edits come first.
            self.fails(InvalidEdit, learner.apply, ("drop", "zz"), ("put", "A", ()), ("put", "b", None), value)

    def test_parts_of_edits(self):
        learner = Learner(("a",), a=())
        for value in kinds():
            if not is_name(value):
                for edit in (("put", value, None), ("graph", value, None), ("drop", value)):
                    self.fails(InvalidEdit, learner.apply, edit)
                self.fails(InvalidEdit, learner.put, value, None)
                self.fails(InvalidEdit, learner.put_all, value, None)
                self.fails(InvalidEdit, learner.graph, value, None)
                self.fails(InvalidEdit, learner.drop, value)
            elif value != "a":
                self.fails_with(UnknownName, "name", value, learner.drop, value)
            if not are_words(("a",), value):
                self.fails(InvalidWord, learner.put_all, "b", value)
                self.fails(InvalidWord, learner.apply, ("put", "b", value))
            if not papers.is_word(("a",), value):
                self.fails(InvalidWord, learner.put, "b", value)
                self.fails(InvalidWord, learner.put, "b", (), value)
            if not is_behaviour(value) or value[0] != ("a",):
                self.fails(InvalidBehaviour, learner.graph, "b", value)
        for value in NO_BEHAVIOURS:
            self.fails(InvalidBehaviour, learner.graph, "b", value)
        self.same((list(learner.logs), learner.edits), (["a"], ()))

    def test_order(self):
        learner = Learner(AB)
        # Edit by edit, and in each of them name, words or behaviour, missing name.
        wrong = (
            (("put", "A", None), InvalidEdit), (("put", "a", None), InvalidWord), (("graph", "a", TWO), InvalidBehaviour), (("drop", "x"), UnknownName),
            (("graph", "", None), InvalidEdit), (("put", 5, None), InvalidEdit), (("drop", None), InvalidEdit), (("drop", "X"), InvalidEdit), (("put", "a", (("x",),)), InvalidWord),
        )
        for first, error in wrong:
            for second, _ in wrong:
                self.fails(error, learner.apply, first, second)
                self.fails(error, learner.apply, ("put", "good", ()), first, second)
                self.fails(error, learner.apply, ("graph", "a", hard_log(13)), first, second)
        long = (("a",) * 150,)
        # Of what is there at the end, by ascending names.
        self.fails_with(TooMany, "limit", 150, learner.apply, ("graph", "b", hard_log(13)), ("put", "a", long))
        self.fails_with(TooMany, "limit", 2000, learner.apply, ("put", "b", long), ("graph", "a", hard_log(13)))
        self.same(learner.apply(("put", "b", long), ("graph", "a", hard_log(13)), ("drop", "b"), ("put", "a", ())), ())
        learner.undo()
        # Then all of them together, and then the paths of what is seen.
        far = tuple(tuple("a" if state != at else "b" for state in range(100)) for at in range(2))
        self.same(learner.put("x", *far), ())
        self.fails_with(TooMany, "limit", 150, learner.put, "y", *(tuple("ab"[state % 2] for state in range(140)),))
        self.same(list(learner.logs), ["x"])

    def test_too_many_sets_together(self):
        # Each of them has few sets of states, but both together have a set for each pair.
        one = behaviour_of(AB, *[(state, action, (state + (action == "a")) % 47) for state in range(47) for action in AB])
        other = behaviour_of(AB, *[(state, action, (state + (action == "b")) % 43) for state in range(43) for action in AB])
        marked = behaviour_of(ABX, *one[2], (0, "x", 100), (100, "a", 101))
        more = behaviour_of(ABX, *other[2], (0, "x", 100), (100, "b", 101))
        learner = Learner(ABX, one=marked)
        before = state_of(learner)
        self.fails_with(TooMany, "limit", 2000, learner.graph, "two", more)
        self.same(state_of(learner), before)
        few = behaviour_of(ABX, *[(state, action, (state + (action == "b")) % 13) for state in range(13) for action in AB], (0, "x", 100), (100, "b", 101))
        self.fails_with(TooMany, "limit", 150, learner.graph, "two", few)

    def test_too_many_paths(self):
        learner = Learner(FIVE)
        before = state_of(learner)
        self.fails_with(TooMany, "limit", 5000, learner.graph, "one", MANY)
        self.same(state_of(learner), before)
        # Each alone has few simple paths.
        half = behaviour_of(FIVE, *[(state, action, state + 1) for state in range(4) for action in FIVE])
        ways = behaviour_of(FIVE, *[(state, action, state + 1) for state in range(6) for action in ("a", "b")])
        self.same(learner.graph("one", half), ())
        self.same(learner.graph("two", ways), ())

    def test_numbers(self):
        learner = Learner(("a",))
        learner.put("one")
        for value in kinds():
            for call in (learner.undo, learner.redo):
                if value.__class__ is not int or value < 0:
                    self.fails_with(InvalidNumber, "value", value, call, many=value)
                elif value > 1:
                    self.fails_with(NothingToUndo, "many", value, call, many=value)
        self.fails_with(NothingToUndo, "many", 1, learner.redo, many=1)
        with self.assertRaises(TypeError):
            learner.undo(1)
        learner.undo(many=1)
        self.fails_with(NothingToUndo, "many", 1, learner.undo)

    def test_words(self):
        learner = Learner(("a",), one=LOOP)
        before = state_of(learner)
        for call in (learner, learner.paper, learner.bar):
            self.refuses(InvalidWord, call, lambda value: papers.is_word(("a",), value))
            self.fails(InvalidWord, call, ("a",) * 201)
            call(("a",) * 200)
        for value in kinds():
            if not papers.is_word(("a",), value):
                self.fails(InvalidWord, learner.watch, value)
                self.fails(InvalidWord, learner.unwatch, value)
        self.fails(InvalidWord, learner.bar, ("a",), ("b",))
        self.fails(InvalidWord, learner.watch, ("a",) * 201)
        self.fails_with(TooMany, "limit", 200, learner.bar, *[("a",)] * 201)
        self.same(learner.bar(*[("a",)] * 200)[:2], ("unavoidable", 0))
        self.same(learner.bar()[0], "net")
        self.same(state_of(learner), before)

    def test_net(self):
        full = behaviour_of(FIVE, *[(state, action, state + 1) for state in range(5) for action in FIVE], (5, "c", 5))
        learner = Learner(FIVE, one=full)
        self.fails_with(TooMany, "limit", 200, learner.net)
        self.same(learner(()), FIVE)

    def test_time(self):
        start = time.process_time()
        learner = Learner(ABX)
        learner.watch(("a", "b"))
        for number in range(1500):
            learner.put("one", ("a", "a", "x"), ("b",) * (number % 3))
            learner(("a",))
            learner.paper(("a", "a", "x"))
            learner == Learner(ABX)
        learner.undo(many=1500)
        self.assertTrue(time.process_time() - start < 15)


if __name__ == "__main__":
    unittest.main()
