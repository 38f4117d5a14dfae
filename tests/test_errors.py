"""Point 1: the error classes, and what holds for all functions alike."""

import copy
import unittest

from tests.values import NOTHINGS
from unknowntables import errors
from unknowntables.desks import Desk
from unknowntables.errors import (
    BadAnswer, BadFormula, BadLogic, BadName, BadPromise, BadPromises, BadRow, InvalidText, LogicError, NotText,
)
from unknowntables.formulas import (
    alike, filled, gaps, is_formula, is_once, is_sure, letters_of, parting, slips, table, value,
)
from unknowntables.logics import conj, disj, neg, told_logic
from unknowntables.maps import can_add, can_hold, clashes, count_logics, least_logic
from unknowntables.promises import counterexample, keeps, profile
from unknowntables.texts import read_formula, read_logic, write_formula, write_logic

STRONG = tuple("ffuuuuuttuu")
THREE = ("and", "c", ("or", "b", ("not", "a")))
WITHOUT_FIELDS = (
    "BadAnswer", "BadName", "BadPromise", "BadPromises", "BadFormula", "BadRow",
    "NotText", "InvalidText", "NotNow", "NothingToUndo",
)


def nested(depth):
    value = ()
    for _ in range(depth):
        value = (value,)
    return value


def run_on_a_desk(line):
    """What a new desk makes of a line."""
    return Desk(STRONG).run(line)


# Calls, each with valid arguments and the error for an invalid one in each place. The formula has three letters, so
# that none of NOTHINGS is a row for it.
CALLS = (
    (conj, (STRONG, "f", "u"), (BadLogic, BadAnswer, BadAnswer)),
    (disj, (STRONG, "f", "u"), (BadLogic, BadAnswer, BadAnswer)),
    (neg, (STRONG, "u"), (BadLogic, BadAnswer)),
    (told_logic, ("weak",), (BadName,)),
    (keeps, (STRONG, "turn"), (BadLogic, BadPromise)),
    (counterexample, (STRONG, "turn"), (BadLogic, BadPromise)),
    (profile, (STRONG,), (BadLogic,)),
    (can_hold, (("told",),), (BadPromises,)),
    (can_add, (("told",),), (BadPromises,)),
    (clashes, (("told",),), (BadPromises,)),
    (count_logics, (("told",),), (BadPromises,)),
    (least_logic, (("told",),), (BadPromises,)),
    (letters_of, ("a",), (BadFormula,)),
    (is_once, ("a",), (BadFormula,)),
    (value, (STRONG, THREE, ("f", "t", "u")), (BadLogic, BadFormula, BadRow)),
    (table, (STRONG, THREE), (BadLogic, BadFormula)),
    (is_sure, (STRONG, THREE), (BadLogic, BadFormula)),
    (parting, (STRONG, THREE, "a"), (BadLogic, BadFormula, BadFormula)),
    (alike, (STRONG, THREE, "a"), (BadLogic, BadFormula, BadFormula)),
    (filled, (THREE, ("f", "t", "u")), (BadFormula, BadRow)),
    (gaps, (STRONG, THREE), (BadLogic, BadFormula)),
    (slips, (STRONG, THREE), (BadLogic, BadFormula)),
    (write_logic, (STRONG,), (BadLogic,)),
    (read_logic, ("ffuuuuuttuu",), (NotText,)),
    (write_formula, (THREE,), (BadFormula,)),
    (read_formula, ("not a",), (NotText,)),
    (Desk, (STRONG,), (BadLogic,)),
    (run_on_a_desk, ("take a",), (NotText,)),
)


def is_valid(error, wrong):
    """Whether one of NOTHINGS is something after all, where this error is raised for what is not."""
    return error is BadPromises and wrong in ((), ("turn",))


class ErrorClasses(unittest.TestCase):
    def test_base(self):
        self.assertEqual(LogicError.__bases__, (ValueError,))

    def test_all_are_direct_subclasses(self):
        for name in (*WITHOUT_FIELDS, "BadLogic"):
            with self.subTest(name=name):
                found = getattr(errors, name)
                self.assertEqual(found.__bases__, (LogicError,))
                self.assertEqual(found.__module__, "unknowntables.errors")
                self.assertEqual(found.__name__, name)

    def test_no_other_errors(self):
        found = {name for name, value in vars(errors).items() if isinstance(value, type)}
        self.assertEqual(found, {"LogicError", "BadLogic", *WITHOUT_FIELDS})

    def test_without_fields(self):
        for name in WITHOUT_FIELDS:
            with self.subTest(name=name):
                self.assertEqual(vars(getattr(errors, name)("why")), {})

    def test_bad_logic_has_its_index(self):
        for index in (None, 0, 7, 10):
            with self.subTest(index=index):
                self.assertEqual(vars(BadLogic(index)), {"index": index})

    def test_each_is_caught_as_a_value_error(self):
        with self.assertRaises(ValueError):
            told_logic("x")


class FirstInvalidArgument(unittest.TestCase):
    def test_logic_ahead_of_answers(self):
        for call in (conj, disj):
            for one, other in (("x", "u"), ("u", "x"), ([], {})):
                with self.subTest(call=call.__name__, one=one, other=other):
                    self.assertRaises(BadLogic, call, STRONG[1:], one, other)
        self.assertRaises(BadLogic, neg, list(STRONG), "x")

    def test_logic_ahead_of_promise(self):
        for call in (keeps, counterexample):
            with self.subTest(call=call.__name__):
                self.assertRaises(BadLogic, call, STRONG[1:], "x")
                self.assertRaises(BadLogic, call, None, ["turn"])
                self.assertRaises(BadPromise, call, STRONG, ["turn"])


class AnyValue(unittest.TestCase):
    def assert_raises_and_changes_nothing(self, error, call, arguments):
        before = copy.deepcopy(arguments)
        with self.assertRaises(LogicError) as caught:
            call(*arguments)
        self.assertIs(caught.exception.__class__, error)
        self.assertEqual(arguments, before)

    def test_valid_arguments_raise_nothing(self):
        for call, valid, _ in CALLS:
            before = copy.deepcopy(valid)
            call(*valid)
            self.assertEqual(valid, before)

    def test_each_argument(self):
        for call, valid, errors_told in CALLS:
            for place, error in enumerate(errors_told):
                for wrong in NOTHINGS:
                    if is_valid(error, wrong):
                        continue
                    told = InvalidText if error is NotText and isinstance(wrong, str) else error
                    with self.subTest(call=call.__name__, place=place, kind=type(wrong).__name__):
                        arguments = (*valid[:place], wrong, *valid[place + 1:])
                        self.assert_raises_and_changes_nothing(told, call, arguments)

    def test_of_two_wrong_arguments_the_first(self):
        for call, valid, errors_told in CALLS:
            for place, error in enumerate(errors_told[:-1]):
                for wrong in NOTHINGS:
                    for later in (None, [wrong], {"f": wrong}, "x"):
                        arguments = (*valid[:place], wrong) + (later,) * (len(valid) - place - 1)
                        with self.subTest(call=call.__name__, place=place):
                            self.assert_raises_and_changes_nothing(error, call, arguments)

    def test_deeply_nested(self):
        # Whoever hashes, shows or compares such a value whole does not come to the named error.
        deep = nested(100000)
        for call, valid, errors_told in CALLS:
            for place, error in enumerate(errors_told):
                # Not by assertRaises or in a message: these would show the value.
                try:
                    call(*valid[:place], deep, *valid[place + 1:])
                except LogicError as caught:
                    self.assertIs(caught.__class__, error)
                else:
                    self.fail(call.__name__)

    def test_deeply_nested_within(self):
        deep = nested(100000)
        for error, call, arguments in (
            (BadLogic, profile, ((deep,) * 11,)),
            (BadPromises, can_hold, ((deep,),)),
            (BadPromises, clashes, (("absorb", deep),)),
            (BadFormula, letters_of, (("not", deep),)),
            (BadFormula, table, (STRONG, ("and", "a", deep))),
            (BadFormula, is_once, ((deep, "a"),)),
            (BadRow, value, (STRONG, "a", (deep,))),
            (BadRow, filled, (("and", "a", "b"), ("f", deep))),
        ):
            try:
                call(*arguments)
            except LogicError as caught:
                self.assertIs(caught.__class__, error)
            else:
                self.fail(call.__name__)

    def test_is_formula_takes_all(self):
        deep = nested(100000)
        for wrong in (deep, [deep], ("not", deep), ("or", "a", deep), (deep, "a"), *NOTHINGS):
            if is_formula(wrong) is not False:
                self.fail("taken for a formula")


if __name__ == "__main__":
    unittest.main()
