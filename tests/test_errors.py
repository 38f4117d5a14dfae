"""Point 1: the error classes, and what holds for all functions alike."""

import copy
import unittest

from tests.values import NOTHINGS
from unknowntables import errors
from unknowntables.errors import BadAnswer, BadLogic, BadName, BadPromise, LogicError
from unknowntables.logics import conj, disj, neg, told_logic
from unknowntables.promises import counterexample, keeps, profile

STRONG = tuple("ffuuuuuttuu")
WITHOUT_FIELDS = (
    "BadAnswer", "BadName", "BadPromise", "BadPromises", "BadFormula", "BadRow",
    "NotText", "InvalidText", "NotNow", "NothingToUndo",
)


def nested(depth):
    value = ()
    for _ in range(depth):
        value = (value,)
    return value


class ErrorClasses(unittest.TestCase):
    def test_base(self):
        self.assertEqual(LogicError.__bases__, (ValueError,))

    def test_all_are_direct_subclasses(self):
        for name in (*WITHOUT_FIELDS, "BadLogic"):
            with self.subTest(name=name):
                found = getattr(errors, name)
                self.assertEqual(found.__bases__, (LogicError,))
                self.assertEqual(found.__module__, "unknowntables.errors")
                self.assertEqual(found.__name__, name)

    def test_no_other_errors(self):
        found = {name for name, value in vars(errors).items() if isinstance(value, type)}
        self.assertEqual(found, {"LogicError", "BadLogic", *WITHOUT_FIELDS})

    def test_without_fields(self):
        for name in WITHOUT_FIELDS:
            with self.subTest(name=name):
                self.assertEqual(vars(getattr(errors, name)("why")), {})

    def test_bad_logic_has_its_index(self):
        for index in (None, 0, 7, 10):
            with self.subTest(index=index):
                self.assertEqual(vars(BadLogic(index)), {"index": index})

    def test_each_is_caught_as_a_value_error(self):
        with self.assertRaises(ValueError):
            told_logic("x")


class FirstInvalidArgument(unittest.TestCase):
    def test_logic_ahead_of_answers(self):
        for call in (conj, disj):
            for one, other in (("x", "u"), ("u", "x"), ([], {})):
                with self.subTest(call=call.__name__, one=one, other=other):
                    self.assertRaises(BadLogic, call, STRONG[1:], one, other)
        self.assertRaises(BadLogic, neg, list(STRONG), "x")

    def test_logic_ahead_of_promise(self):
        for call in (keeps, counterexample):
            with self.subTest(call=call.__name__):
                self.assertRaises(BadLogic, call, STRONG[1:], "x")
                self.assertRaises(BadLogic, call, None, ["turn"])
                self.assertRaises(BadPromise, call, STRONG, ["turn"])


class AnyValue(unittest.TestCase):
    def assert_raises_and_changes_nothing(self, error, call, *arguments):
        before = copy.deepcopy(arguments)
        self.assertRaises(error, call, *arguments)
        self.assertEqual(arguments, before)

    def test_each_argument(self):
        for value in NOTHINGS:
            with self.subTest(kind=type(value).__name__):
                for call in (conj, disj):
                    self.assert_raises_and_changes_nothing(BadLogic, call, value, "f", "u")
                    self.assert_raises_and_changes_nothing(BadAnswer, call, STRONG, value, "u")
                    self.assert_raises_and_changes_nothing(BadAnswer, call, STRONG, "f", value)
                self.assert_raises_and_changes_nothing(BadLogic, neg, value, "u")
                self.assert_raises_and_changes_nothing(BadAnswer, neg, STRONG, value)
                self.assert_raises_and_changes_nothing(BadName, told_logic, value)
                for call in (keeps, counterexample):
                    self.assert_raises_and_changes_nothing(BadLogic, call, value, "turn")
                    self.assert_raises_and_changes_nothing(BadPromise, call, STRONG, value)
                self.assert_raises_and_changes_nothing(BadLogic, profile, value)

    def test_deeply_nested(self):
        # Whoever hashes, shows or compares such a value whole does not come to the named error.
        deep = nested(100000)
        for error, call, arguments in (
            (BadAnswer, conj, (STRONG, deep, "u")),
            (BadAnswer, disj, (STRONG, "u", deep)),
            (BadAnswer, neg, (STRONG, deep)),
            (BadName, told_logic, (deep,)),
            (BadPromise, keeps, (STRONG, deep)),
            (BadPromise, counterexample, (STRONG, deep)),
            (BadLogic, profile, (deep,)),
            (BadLogic, profile, ((deep,) * 11,)),
        ):
            try:
                call(*arguments)
            except LogicError as caught:
                self.assertIs(caught.__class__, error)
            else:
                self.fail(call.__name__)


if __name__ == "__main__":
    unittest.main()
