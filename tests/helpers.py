"""What several test files use: values of every kind that [0.4] names, and tests of errors."""

import copy
import unittest

from leastnet.base.words import words_with
from leastnet.learner.learner import Learner
from leastnet.nets.nets import Net
from leastnet.seen.circles import rays_of
from leastnet.text.shell import Shell

FORTY = 10 ** 40 - 1


def nested(make, depth):
    """Return a value that is nested so deep."""
    value = 1
    for _ in range(depth):
        value = make(value)
    return value


def kinds():
    """Return values of every kind that may be passed to any parameter."""
    return [
        0, 1, -1, 2, 5, 200, 201, FORTY, -FORTY, True, False, None,
        "", "a", "ab", "A", "a b", "abcdefgh", "abcdefghi", "\u00e9", "\u0430", "1", "-", "\n", "a\n", "solution",
        (), (1,), (0,), (-1,), (True,), (None,), ("a",), ("b", "a"), ("a", "a"), ((),), ([],), ({},), (("a",),),
        (1, 2), (2, 4), (1, True), (True, 1), (1, 0), (0, 2), (1, -2), ("1", "2"), (1, 2, 3), (1, 2, 3, 4, 5),
        (1, 2, 3, 4, 5, 6), (0, (0,), (0,)), (0, (0, 0), (0, 0)), (0, (0, 0), (0,)), (1, [0], (0,)), ((1, 2), (3, 4)),
        ((1, 2), (3,)), ("solution", ()), ("conflict", ()), ("solution", [1]), ("solution",), ("conflict", (True,)),
        [], [1], ["a"], [1, 2], ["a", "b"], [[1], [2]], [(1, 2)], [None], ["solution", ((1, 1),)],
        {}, {"a": 1}, {1: 2}, {(1, 2): []}, {None: None}, {"a": {"a": {}}},
        nested(lambda value: (value,), 12), nested(lambda value: [value], 12), nested(lambda value: {1: value}, 12),
        words_with(("a", "b"), (1, 1)), Net(("a",)), Net(("a", "b"), (1, (1, 0), (0, 1))), (Net(("a",)),), [Net(("a",))],
        (("a",), 1, ()), (("a", "b"), 2, ((0, "a", 1), (1, "b", 0))), rays_of((("a",), 1, ((0, "a", 0),))),
        ("respects", (0,)), ("breaks", (), "a"), ("falls", (), ("a",)), ("place", (0, (1,), (0,))), ("place", 0, (0, (1,), (0,))),
        ("mixture", ((((1, 1), ()),), ())), ("mixtures", ()), ("inside", ((1, 1),), ()), ("outside", (1,), 0),
        ("part", (), ()), ("point", 0, (1,), 0), ("ray", 0, (1,)), ((), ()), (((1,), 0),), ((((1,), 0),), ()),
        (Net(("a",)), Net(("a",))), (Net(("a",)), 1, Net(("a",))), ("place", Net(("a",))), (((((),),),),),
        Learner(("a",)), Learner(("a", "b"), one=(("a",),)), Shell(("a",)), (Learner(("a",)), Shell(("a",))), [Shell(("a",))],
        ("covers", {}, {}), ("covers", {((0,), "a"): ()}, {}), ("covers", [], ()), ("step", (), "a", (0, (1,), (1,))),
        ("mixtures", ((((1, 1), ()),), ()), ()), ("net", Net(("a",))), ("net", Net(("a",)), ((),)), ("unavoidable", 0, ()),
        ("none", ()), ("least", 0, ()), ("least", True, ()), ("falls", (), ("a",), ()), ("states", (), ("a",), ()),
        ("action", (), "a", (((1, 1), ()),), ()), ("put", "a", ()), ("drop", "a"), (("drop", "a"),), ("graph", "a", (("a",), 1, ())),
        {"one": ()}, {"a": (("a",), 1, ())}, "net ", "put one a", "a; 1", "0; a 1 0", "1/2", "-1", "01",
    ]


def same(one, other):
    """Tell whether two values are equal, also in their kinds: 1 is not True."""
    return repr(one) == repr(other)


class Case(unittest.TestCase):
    """A test case with the checks that all test files share."""

    def same(self, found, wanted):
        """The value is the wanted one, also in its kinds."""
        self.assertEqual(repr(found), repr(wanted))

    def fails(self, error, call, *args, **more):
        """The call raises exactly this error; it is returned."""
        with self.assertRaises(error) as caught:
            call(*args, **more)
        self.assertIs(caught.exception.__class__, error, (call, args, more))
        return caught.exception

    def fails_with(self, error, name, value, call, *args, **more):
        """The call raises exactly this error, with this value in the attribute."""
        found = self.fails(error, call, *args, **more)
        self.same(getattr(found, name), value)

    def refuses(self, error, call, right):
        """The call of one argument raises this error for every value that is not right, and for right ones none."""
        for value in kinds():
            if right(value):
                call(value)
            else:
                self.fails(error, call, value)

    def answers(self, call, right):
        """The call of one argument returns True or False as the value is right, and raises nothing."""
        for value in kinds():
            self.assertIs(call(value), bool(right(value)), value)

    def ordered(self, call, good, wrong):
        """Of two wrong arguments the one that is listed first is told.

        `good` is a dict of arguments that are right, in the order of the parameters. `wrong` lists
        (parameter, value, error, attribute), in the order in which the errors are checked.
        """
        call(*good.values())
        for at, (name, value, error, attribute) in enumerate(wrong):
            self.one_fails(call, {**good, name: value}, error, attribute, value)
            for later, bad, _, _ in wrong[at + 1:]:
                if later != name:
                    self.one_fails(call, {**good, name: value, later: bad}, error, attribute, value)

    def one_fails(self, call, args, error, attribute, value):
        """The call with these arguments raises the error; where it keeps a value, it is this one."""
        found = self.fails(error, call, *args.values())
        if attribute is not None:
            self.same(getattr(found, attribute), value)

    def leaves(self, call, *args, **more):
        """The call changes none of its arguments, and answers the same when it is made again."""
        before = repr((copy.deepcopy(args), copy.deepcopy(more)))
        once = call(*args, **more)
        self.assertEqual(repr((args, more)), before)
        self.same(call(*args, **more), once)
