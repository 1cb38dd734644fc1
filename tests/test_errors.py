"""Tests of leastnet.errors: [0.18] and [0.19]."""

import unittest

from leastnet import errors
from helpers import Case

WITH_MESSAGE = (
    "InvalidAlphabet", "InvalidWord", "InvalidVector", "InvalidPlace", "InvalidNet", "InvalidBehaviour",
    "InvalidPoints", "InvalidFraction", "InvalidOperation", "InvalidEdit", "ParseError", "InvalidCommand",
)
WITH_VALUE = (
    ("InvalidNumber", "value", IndexError), ("UnknownName", "name", KeyError), ("TooMany", "limit", OverflowError),
    ("Avoidable", "place", ArithmeticError), ("NothingToUndo", "many", LookupError),
)


class Messages(Case):
    def test_net_error(self):
        self.assertEqual(errors.NetError.__bases__, (ValueError,))
        self.assertEqual(str(errors.NetError("why")), "why")

    def test_derived_from_net_error_alone(self):
        for name in WITH_MESSAGE:
            kind = getattr(errors, name)
            self.assertEqual(kind.__bases__, (errors.NetError,), name)
            self.assertEqual(kind.__name__, name)
            self.assertEqual(str(kind("why")), "why")

    def test_caught_as_net_error(self):
        for name in WITH_MESSAGE:
            with self.assertRaises(errors.NetError):
                raise getattr(errors, name)("why")


class Values(Case):
    def test_bases(self):
        for name, _, base in WITH_VALUE:
            kind = getattr(errors, name)
            self.assertEqual(kind.__bases__, (base,), name)
            self.assertFalse(issubclass(kind, errors.NetError))
            self.assertFalse(issubclass(kind, ValueError))

    def test_not_from_one_another(self):
        kinds = [getattr(errors, name) for name, _, _ in WITH_VALUE]
        for one in kinds:
            self.assertEqual([other for other in kinds if issubclass(one, other)], [one])

    def test_keep_the_value(self):
        for name, attribute, _ in WITH_VALUE:
            for value in (7, True, None, "x", (1, (2,)), [1], {"a": 1}, 10 ** 40):
                found = getattr(errors, name)(value)
                self.assertEqual(vars(found), {attribute: value})
                self.assertIs(getattr(found, attribute), value)

    def test_one_value(self):
        for name, _, _ in WITH_VALUE:
            with self.assertRaises(TypeError):
                getattr(errors, name)()
            with self.assertRaises(TypeError):
                getattr(errors, name)(1, 2)


if __name__ == "__main__":
    unittest.main()
