"""Tests of the main guarantee over the whole program: [0.16], and of what is not true: [0.17]."""

import random
import unittest

from leastnet.compare.covers import covers, have_same_rules
from leastnet.compare.wishes import barring_all, is_barring
from leastnet.exact.exact import exact_paper, has_exact_net, is_exact_paper
from leastnet.learner.learner import Learner
from leastnet.nets.nets import Net
from leastnet.seen.behaviours import behaviour_of, is_run, log_of, runs, settled, united
from leastnet.seen.respect import respects
from leastnet.steps.least import least_net, net_respects
from leastnet.steps.plain import is_plain_paper, is_plainly_unavoidable, plain_net, plain_paper
from leastnet.steps.steps import is_step_paper, is_unavoidable, is_unavoidable_step, is_word_paper, step_paper
from helpers import Case
from reference import AB, ABX, CP, TURN, TWO, behaviours, counts, words
from test_learner import some_edits
from test_steps import chance_steps
import papers
import reference

HALVES = ((((1, 2), ("a", "a")), ((1, 2), ("b", "b"))), ())
TWICE = behaviour_of(CP, (0, "c", 1), (0, "p", 2), (1, "p", 3), (2, "c", 4))


class Guarantee(Case):
    def test_one_kind_of_paper(self):
        chance = random.Random(311)
        for behaviour, x, action in chance_steps(312, 150):
            for write, check, plain in ((step_paper, is_step_paper, False), (plain_paper, is_plain_paper, True)):
                paper = write(behaviour, x, action)
                self.assertIs(check(behaviour, x, action, paper), True)
                # No paper of the other kind is accepted: all of these are tried.
                start = chance.randint(0, 4)
                places = [(start, takes, gives) for takes in self.vectors(chance, x) for gives in self.vectors(chance, x)]
                accepted = [place for place in places if check(behaviour, x, action, ("place", place))]
                self.assertTrue(paper[0] == "place" or not accepted)
                if plain:
                    self.assertTrue(all(not any(map(min, place[1], place[2])) for place in accepted))

    def vectors(self, chance, x):
        """Return some counts vectors as long as x."""
        return [tuple(chance.choice((0, 0, 1, 2)) for _ in x) for _ in range(4)]

    def test_the_least_net(self):
        for behaviour in behaviours(313, 60):
            alphabet = behaviour[0]
            net = least_net(behaviour)
            self.assertIs(net_respects(behaviour, net), True)
            for word in words(alphabet, 3):
                self.assertIs(word in net, is_unavoidable(behaviour, word))
            # It is the least one: every net that respects the behaviour allows all its runs.
            chance = random.Random(314)
            places = [(chance.randint(0, 3), *(tuple(chance.choice((0, 0, 1, 2)) for _ in alphabet) for _ in range(2))) for _ in range(20)]
            other = Net(alphabet, *[place for place in places if respects(behaviour, place)])
            self.assertTrue(all(word in other for word in net.runs(longest=4)))

    def test_the_same_for_all_that_cover_one_another(self):
        for behaviour in behaviours(315, 60):
            alphabet, _, edges = behaviour
            logs = [log_of(alphabet, run) for run in runs(behaviour, longest=3)]
            random.Random(316).shuffle(logs)
            other = united(behaviour, *logs, settled(behaviour))
            self.assertIs(have_same_rules(behaviour, other), True)
            self.assertTrue(least_net(other) == least_net(behaviour))
            self.assertTrue(plain_net(other) == plain_net(behaviour))
            self.same(least_net(other).places, least_net(behaviour).places)

    def test_words_are_barred_together(self):
        for behaviour in behaviours(317, 40):
            avoidable = tuple(word for word in words(behaviour[0], 3) if not is_unavoidable(behaviour, word))
            paper = barring_all(behaviour, avoidable)
            self.assertTrue(paper[0] == "net" and is_barring(behaviour, avoidable, paper))

    def test_exact_nets(self):
        for behaviour in [*map(settled, behaviours(318, 120, size=4, more=3)), TURN, TWICE]:
            paper = exact_paper(behaviour)
            self.assertIs(is_exact_paper(behaviour, paper), True)
            if paper[0] == "net":
                # The least net allows the runs of the behaviour alone.
                self.same(list(least_net(behaviour).runs(longest=4)), reference.runs(behaviour, 4))
                self.assertTrue({paper[1](run) for run in paper[1].runs(longest=8)} <= set(paper[2]))

    def test_a_learner_after_any_edits(self):
        chance = random.Random(319)
        for _ in range(25):
            alphabet = chance.choice((AB, ABX))
            learner = Learner(alphabet)
            for _ in range(12):
                move = chance.randrange(4)
                if move < 2:
                    learner.apply_all(some_edits(chance, alphabet, learner.logs))
                elif move == 2 and learner.edits:
                    learner.undo(many=chance.randint(1, len(learner.edits)))
                elif move == 3 and learner.edits:
                    learner.undo()
                    learner.redo()
                seen = learner.seen
                net = learner.net()
                self.assertIs(net_respects(seen, net), True)
                for word in words(alphabet, 2):
                    paper = learner.paper(word)
                    self.assertIs(is_word_paper(seen, word, paper), True)
                    self.assertIs(word in net, paper[0] == "mixtures")
                for log in learner.logs.values():
                    self.assertIs(covers(seen, log), True)


class NotTrue(Case):
    """Each sentence of [0.17], with an example that shows that it is not true."""

    def test_counts_need_not_be_seen(self):
        seen = [counts(ABX, run) for run in reference.runs(TWO, 5) if is_run(TWO, (*run, "x"))]
        self.assertNotIn((1, 1, 0), seen)
        self.assertIs(is_unavoidable_step(TWO, (1, 1, 0), "x"), True)

    def test_no_unavoidable_word_need_be_before(self):
        self.assertIs(is_unavoidable_step(TWO, (1, 1, 0), "x"), True)
        self.assertIs(is_unavoidable(TWO, ("a", "b")) or is_unavoidable(TWO, ("b", "a")), False)

    def test_weights_are_no_integers(self):
        paper = step_paper(TWO, (1, 1, 0), "x")
        self.same(sorted(paper[1][0]), sorted(HALVES[0]))

    def test_other_actions_do_not_count(self):
        self.assertIs(is_step_paper(TWO, (1, 0, 0), "b", ("mixture", ((((1, 1), ("a",)),), ()))), False)
        self.assertIs(is_step_paper(TWO, (1, 0, 0), "a", ("mixture", ((((1, 1), ("a",)),), ()))), True)
        self.assertIs(is_unavoidable_step(TWO, (1, 0, 0), "b"), False)

    def test_orders(self):
        self.assertIs(is_unavoidable(TURN, ("p", "c")), True)
        self.assertIs(is_unavoidable(TURN, ("c", "p")), False)

    def test_all_circles_count(self):
        behaviour = behaviour_of(ABX, (0, "x", 1), (0, "a", 2), (2, "b", 2))
        self.assertIs(is_unavoidable_step(behaviour, (0, 5, 0), "x"), True)

    def test_plain_places_are_not_as_strict(self):
        self.assertIs(is_plainly_unavoidable(TWO, ("a", "b")), True)
        self.assertIs(is_unavoidable(TWO, ("a", "b")), False)

    def test_more_runs_and_infinitely_many_markings(self):
        behaviour = behaviour_of(AB, (0, "a", 0), (0, "a", 1), (1, "b", 0))
        net = least_net(behaviour)
        more = [word for word in net.runs(longest=6) if not is_run(behaviour, word)]
        self.assertTrue(more)
        self.assertEqual(len({net(("a",) * many) for many in range(100)}), 100)

    def test_not_all_places_of_both(self):
        one, other = log_of(ABX, ("a", "a", "x")), log_of(ABX, ("b", "b", "x"))
        both = least_net(united(one, other)).places
        self.assertFalse(set(least_net(one).places) <= set(both))
        self.assertFalse(set(least_net(other).places) <= set(both))

    def test_avoidable_for_each_but_not_for_both(self):
        one, other = log_of(ABX, ("a", "a", "x"), ("a", "b")), log_of(ABX, ("b", "b", "x"), ("a", "b"))
        word = ("a", "b", "x")
        self.same([is_unavoidable(one, word), is_unavoidable(other, word), is_unavoidable(united(one, other), word)], [False, False, True])

    def test_no_exact_net(self):
        self.same(list(least_net(TWICE).runs(longest=8)), reference.runs(TWICE, 4))
        self.same(list(least_net(TWICE).runs(longest=8)), list(runs(TWICE, longest=8)))
        self.assertIs(has_exact_net(TWICE), False)
        self.assertTrue(papers.is_exact_paper(TWICE, exact_paper(TWICE)))


if __name__ == "__main__":
    unittest.main()
