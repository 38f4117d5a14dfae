"""Points 10 to 13: formulas, their answers, which are alike, gaps and slips."""

import unittest
from itertools import product

from tests.reckoning import reckoned_filled, reckoned_value
from tests.some_formulas import (
    ALL_FIVE, DEEP, EITHER, FORMULAS, NEVER, NO_FORMULAS, TOO_DEEP, TWENTY, TWENTY_ONE, WITHOUT_LETTERS,
    chain, leaves_in, right_hand, some_formulas,
)
from tests.values import NOTHINGS, TOLD, sample
from unknowntables.errors import BadFormula, BadLogic, BadRow
from unknowntables.formulas import (
    alike, filled, gaps, is_formula, is_once, is_sure, letters_of, parting, slips, table, value,
)
from unknowntables.promises import keeps

STRONG = tuple(TOLD["strong"])
LOGICS = [tuple(text) for text in (*TOLD.values(), "tfuftfftuff", "utfutfutfut", "ftuftuftuft")]
MIXED = some_formulas("abcdeftu", 150)
KNOWN = some_formulas("abcdeft", 100) + some_formulas("ab", 60) + some_formulas("abct", 60)


def letters_in(*formulas):
    return sorted({leaf for formula in formulas for leaf in leaves_in(formula) if leaf in "abcde"})


def rows_in(*formulas):
    """All rows for the letters of some formulas, ascending."""
    return list(product("ftu", repeat=len(letters_in(*formulas))))


def answers_at(row, *formulas):
    return dict(zip(letters_in(*formulas), row))


class IsFormula(unittest.TestCase):
    def test_formulas(self):
        for formula in (*FORMULAS, *MIXED, *KNOWN):
            with self.subTest(formula=formula):
                self.assertIs(is_formula(formula), True)

    def test_no_formulas(self):
        for formula in NO_FORMULAS:
            with self.subTest(formula=formula):
                self.assertIs(is_formula(formula), False)

    def test_nothings(self):
        for wrong in NOTHINGS:
            self.assertIs(is_formula(wrong), False)

    def test_letters_and_answers_up_to_twenty(self):
        for many in range(1, 21):
            self.assertIs(is_formula(right_hand(("abtu" * 5)[:many])), True)
        for many in range(21, 40):
            self.assertIs(is_formula(right_hand(("abtu" * 10)[:many])), False)

    def test_twenty_and_twenty_one(self):
        for formula in TWENTY:
            self.assertEqual(len(leaves_in(formula)), 20)
            self.assertIs(is_formula(formula), True)
            self.assertIs(is_formula(("and", formula, "a")), False)
        for formula in TWENTY_ONE:
            self.assertEqual(len(leaves_in(formula)), 21)
            self.assertIs(is_formula(formula), False)

    def test_eight_and_nine_tuples(self):
        for depth in range(9):
            self.assertIs(is_formula(chain(depth, "t")), True)
        for depth in range(9, 30):
            self.assertIs(is_formula(chain(depth, "t")), False)
        for formula in DEEP:
            self.assertIs(is_formula(formula), True)
            self.assertIs(is_formula(("not", formula)), False)
        for formula in TOO_DEEP:
            self.assertIs(is_formula(formula), False)

    def test_not_too_deep_beside_too_deep(self):
        self.assertIs(is_formula(("and", chain(7), chain(7))), True)
        self.assertIs(is_formula(("and", chain(7), chain(8))), False)
        self.assertIs(is_formula(("and", chain(8), chain(7))), False)

    def test_full_to_the_depth(self):
        formula = "a"
        for depth in range(1, 12):
            formula = ("and", formula, formula)
            self.assertIs(is_formula(formula), depth <= 4)

    def test_very_many_tuples(self):
        formula = "a"
        for _ in range(100000):
            formula = ("and", formula, formula)
        self.assertIs(is_formula(formula), False)

    def test_very_long(self):
        self.assertIs(is_formula(("and",) + ("a",) * 100000), False)
        self.assertIs(is_formula("a" * 100000), False)


class Letters(unittest.TestCase):
    def test_letters(self):
        for formula in (*FORMULAS, *MIXED):
            with self.subTest(formula=formula):
                self.assertEqual(letters_of(formula), tuple(letters_in(formula)))

    def test_edges(self):
        self.assertEqual(letters_of(ALL_FIVE), ("a", "b", "c", "d", "e"))
        self.assertEqual(letters_of(("or", "e", ("and", "b", "e"))), ("b", "e"))
        for formula in WITHOUT_LETTERS:
            self.assertEqual(letters_of(formula), ())

    def test_is_once(self):
        for formula in (*FORMULAS, *MIXED):
            letters = [leaf for leaf in leaves_in(formula) if leaf in "abcde"]
            with self.subTest(formula=formula):
                self.assertIs(is_once(formula), len(letters) == len(set(letters)))

    def test_answers_may_stand_twice(self):
        for answer in "ftu":
            self.assertIs(is_once(("and", answer, ("or", answer, "a"))), True)
            self.assertIs(is_once(("and", answer, answer)), True)
        self.assertIs(is_once(("and", "a", ("or", "t", "a"))), False)
        self.assertIs(is_once(ALL_FIVE), True)
        self.assertIs(is_once(EITHER), False)

    def test_bad_formulas(self):
        for formula in (*NO_FORMULAS, *NOTHINGS):
            with self.subTest(formula=formula):
                self.assertRaises(BadFormula, letters_of, formula)
                self.assertRaises(BadFormula, is_once, formula)


class Values(unittest.TestCase):
    def test_against_the_reckoning(self):
        for place, formula in enumerate((*FORMULAS, *MIXED)):
            logic = LOGICS[place % len(LOGICS)]
            expected = []
            for row in rows_in(formula):
                expected.append(reckoned_value("".join(logic), formula, answers_at(row, formula)))
                self.assertEqual(value(logic, formula, row), expected[-1], (logic, formula, row))
            self.assertEqual(table(logic, formula), tuple(expected), (logic, formula))
            self.assertIs(is_sure(logic, formula), set(expected) == {"t"}, (logic, formula))

    def test_many_logics(self):
        formulas = (("and", "b", ("not", ("or", "a", "u"))), ("or", ("not", ("and", "a", "b")), ("and", "b", "a")))
        for text in sample()[::40]:
            for formula in formulas:
                expected = [reckoned_value(text, formula, answers_at(row, formula)) for row in rows_in(formula)]
                self.assertEqual(table(tuple(text), formula), tuple(expected), (text, formula))

    def test_tables(self):
        self.assertEqual(table(STRONG, "c"), ("f", "t", "u"))
        self.assertEqual(table(STRONG, ("or", "d", "b")), tuple("ftutttutu"))
        self.assertEqual(table(tuple(TOLD["lazy"]), ("and", "b", "a")), tuple("ffuftufuu"))
        self.assertEqual(len(table(STRONG, ALL_FIVE)), 243)

    def test_without_letters(self):
        for formula, answer in zip(WITHOUT_LETTERS, "tfuuu"):
            self.assertEqual(value(STRONG, formula, ()), answer)
            self.assertEqual(table(STRONG, formula), (answer,))
            self.assertIs(is_sure(STRONG, formula), answer == "t")

    def test_rows_are_for_the_letters_in_their_order(self):
        formula = ("and", "e", ("not", "b"))
        self.assertEqual(value(STRONG, formula, ("f", "t")), "t")
        self.assertEqual(value(STRONG, formula, ("t", "f")), "f")

    def test_sure(self):
        for name, sure in (("as false", True), ("as true", True), ("strong", False), ("weak", False), ("lazy", False)):
            self.assertIs(is_sure(tuple(TOLD[name]), EITHER), sure)
        self.assertIs(is_sure(STRONG, "t"), True)
        self.assertIs(is_sure(STRONG, ("or", "a", "t")), True)
        self.assertIs(is_sure(STRONG, "a"), False)
        self.assertIs(is_sure(STRONG, NEVER), False)


class Wrong(unittest.TestCase):
    def test_bad_rows(self):
        two = ("and", "a", "b")
        for formula, rows in (
            (two, ((), ("f",), ("f", "t", "u"), ("f", "x"), ("x", "f"), ("f", None), ("f", True), ("t", ["t"]),
                   ("f", ""), ("ft",), ("f", "tu"), (("f", "t"),), ["f", "t"], "ft", "", {"f": "t"}, {}, None, 2, True,
                   ({}, "f"), ("F", "t"), ("a", "b"), ((), ()), (0, 1))),
            ("f", (("f",), [], "", None, {}, False, 0, ((),))),
            (EITHER, ((), ("f", "f"), ("a",), ["u"], "u", ("u", "t"), ("uu",))),
        ):
            for row in rows:
                with self.subTest(formula=formula, row=row):
                    self.assertRaises(BadRow, value, STRONG, formula, row)
                    self.assertRaises(BadRow, filled, formula, row)

    def test_bad_formulas(self):
        for wrong in (*NO_FORMULAS, *NOTHINGS):
            with self.subTest(wrong=wrong):
                for call in (table, is_sure, gaps, slips):
                    self.assertRaises(BadFormula, call, STRONG, wrong)
                for call in (parting, alike):
                    self.assertRaises(BadFormula, call, STRONG, wrong, "a")
                    self.assertRaises(BadFormula, call, STRONG, "a", wrong)
                    self.assertRaises(BadFormula, call, STRONG, wrong, wrong)
                self.assertRaises(BadFormula, value, STRONG, wrong, ("f",))
                self.assertRaises(BadFormula, filled, wrong, ("f",))

    def test_bad_logics(self):
        for wrong, index in ((STRONG[1:], None), (list(STRONG), None), (None, None), ("".join(STRONG), None),
                             (STRONG[:3] + ("x",) + STRONG[4:], 3), (STRONG[:10] + (None,), 10), (("",) * 11, 0)):
            for call, rest in ((value, ("a", ("f",))), (table, ("a",)), (is_sure, ("a",)), (parting, ("a", "b")),
                               (alike, ("a", "b")), (gaps, ("a",)), (slips, ("a",))):
                with self.subTest(call=call.__name__, wrong=wrong):
                    with self.assertRaises(BadLogic) as caught:
                        call(wrong, *rest)
                    self.assertEqual(caught.exception.index, index)

    def test_the_first_wrong_argument(self):
        wrong_logic, wrong_formula, wrong_row = STRONG[1:], ("not", "x"), ("x",)
        self.assertRaises(BadLogic, value, wrong_logic, wrong_formula, wrong_row)
        self.assertRaises(BadLogic, value, wrong_logic, "a", wrong_row)
        self.assertRaises(BadLogic, value, wrong_logic, wrong_formula, ("f",))
        self.assertRaises(BadFormula, value, STRONG, wrong_formula, wrong_row)
        for call in (table, is_sure, gaps, slips):
            self.assertRaises(BadLogic, call, wrong_logic, wrong_formula)
            self.assertRaises(BadLogic, call, wrong_logic, None)
        for call in (gaps, slips):
            self.assertRaises(BadLogic, call, wrong_logic, ("and", "a", "u"))
        for call in (parting, alike):
            self.assertRaises(BadLogic, call, wrong_logic, wrong_formula, "a")
            self.assertRaises(BadLogic, call, wrong_logic, "a", wrong_formula)
            self.assertRaises(BadLogic, call, wrong_logic, wrong_formula, [])
        self.assertRaises(BadFormula, filled, wrong_formula, wrong_row)
        self.assertRaises(BadFormula, filled, "u", wrong_row)
        self.assertRaises(BadFormula, filled, ("and", "a", "u"), ())


class Parting(unittest.TestCase):
    def assert_parting(self, logic, one, other):
        expected = None
        for row in rows_in(one, other):
            answers = answers_at(row, one, other)
            if reckoned_value("".join(logic), one, answers) != reckoned_value("".join(logic), other, answers):
                expected = row
                break
        self.assertEqual(parting(logic, one, other), expected, (logic, one, other))
        self.assertIs(alike(logic, one, other), expected is None, (logic, one, other))

    def test_against_the_reckoning(self):
        small = some_formulas("abcftu", 60, seed=3)
        for place, one in enumerate(small):
            for other in small[place::7]:
                self.assert_parting(LOGICS[place % len(LOGICS)], one, other)

    def test_pairs_that_are_alike(self):
        for one, other in (
            (("and", "a", "b"), ("and", "b", "a")), (("and", "a", ("or", "a", "b")), "a"), ("d", "d"), ("f", "f"),
            (("not", ("or", "a", "e")), ("and", ("not", "a"), ("not", "e"))), (("and", "c", "f"), "f"), ("u", "u"),
        ):
            self.assertIs(alike(STRONG, one, other), True)
            self.assertIsNone(parting(STRONG, one, other))
            for logic in LOGICS:
                self.assert_parting(logic, one, other)

    def test_letters_of_both_count(self):
        self.assertEqual(parting(STRONG, "b", "d"), ("f", "t"))
        self.assertEqual(parting(STRONG, "d", "b"), ("f", "t"))
        self.assertEqual(parting(STRONG, "a", "t"), ("f",))
        self.assertEqual(parting(STRONG, "t", "a"), ("f",))
        self.assertEqual(parting(STRONG, ("and", "e", "c"), ("and", "c", "a")), ("f", "t", "t"))
        self.assertEqual(parting(STRONG, ("or", "a", "t"), ("and", "b", "t")), ("f", "f"))
        self.assertEqual(parting(STRONG, "f", "u"), ())
        self.assertIsNone(parting(STRONG, ("and", "a", "f"), ("and", "b", "f")))

    def test_only_an_unknown_answer_parts(self):
        self.assertEqual(parting(STRONG, EITHER, "t"), ("u",))
        self.assertEqual(parting(tuple(TOLD["weak"]), ("and", "a", ("or", "a", "b")), "a"), ("f", "u"))

    def test_five_letters(self):
        self.assertEqual(parting(STRONG, ("and", ALL_FIVE, EITHER), ALL_FIVE), ("u", "f", "f", "t", "t"))


class FillingsGapsSlips(unittest.TestCase):
    def test_filled(self):
        for formula in KNOWN:
            for row in rows_in(formula):
                self.assertEqual(filled(formula, row), reckoned_filled(formula, answers_at(row, formula)))

    def test_filled_by_hand(self):
        for formula, row, answer in (
            (NEVER, "u", "f"), (EITHER, "u", "t"), ("a", "u", "u"), ("a", "t", "t"), ("t", "", "t"), ("f", "", "f"),
            (("and", "a", "b"), "uf", "f"), (("and", "a", "b"), "ut", "u"), (("or", "a", "b"), "uu", "u"),
            (("or", ("and", "a", "b"), ("and", "a", ("not", "b"))), "tu", "t"),
            (("or", ("and", "a", "b"), ("and", "a", ("not", "b"))), "uu", "u"),
        ):
            self.assertEqual(filled(formula, tuple(row)), answer)

    def test_gaps_and_slips(self):
        for place, formula in enumerate(KNOWN):
            for logic in (LOGICS[place % len(LOGICS)], STRONG):
                found = {"gap": [], "slip": [], "none": []}
                for row in rows_in(formula):
                    answers = answers_at(row, formula)
                    told, full = reckoned_value("".join(logic), formula, answers), reckoned_filled(formula, answers)
                    kind = "none" if told == full else "gap" if told == "u" else "slip"
                    found[kind].append(row)
                self.assertEqual(gaps(logic, formula), tuple(found["gap"]), (logic, formula))
                self.assertEqual(slips(logic, formula), tuple(found["slip"]), (logic, formula))

    def test_a_slip_may_be_otherwise_or_too_much(self):
        plain = tuple(TOLD["as false"])
        self.assertEqual(slips(plain, ("not", "a")), (("u",),))
        self.assertEqual(slips(tuple("tfuftfftuff"), ("and", "a", "b")), (("f", "u"), ("u", "t"), ("u", "u")))

    def test_u_in_the_formula(self):
        for formula in ("u", ("not", "u"), ("and", "a", "u"), ("or", ("and", "u", "t"), "b"), ("or", "u", "u")):
            rows = rows_in(formula)
            for row in (*rows, None, ("x",)):
                self.assertRaises(BadFormula, filled, formula, row)
            self.assertRaises(BadFormula, gaps, STRONG, formula)
            self.assertRaises(BadFormula, slips, STRONG, formula)
            self.assertIn(value(STRONG, formula, rows[0]), ("f", "t", "u"))

    def test_no_slips_by_logics_that_keep_growing(self):
        growing = [tuple(text) for text in sample() if keeps(tuple(text), "growing")]
        self.assertGreater(len(growing), 15)
        for place, logic in enumerate(growing):
            for formula in KNOWN[place % 5::5]:
                self.assertEqual(slips(logic, formula), ())

    def test_strong_and_no_letter_twice(self):
        once = [formula for formula in KNOWN if is_once(formula)]
        self.assertGreater(len(once), 40)
        for formula in (*once, ALL_FIVE):
            self.assertEqual(gaps(STRONG, formula), ())
            self.assertEqual(slips(STRONG, formula), ())

    def test_either_has_gaps_where_it_is_unknown(self):
        many = 0
        for formula in KNOWN:
            either = ("or", formula, ("not", formula))
            if is_formula(either):
                many += 1
                unknown = [row for row in rows_in(formula) if value(STRONG, formula, row) == "u"]
                self.assertEqual(gaps(STRONG, either), tuple(unknown))
        self.assertGreater(many, 100)

    def test_without_letters(self):
        for logic in LOGICS:
            for formula in ("f", "t", ("not", "f"), ("and", "t", ("or", "f", "t"))):
                self.assertEqual(gaps(logic, formula), ())
                self.assertEqual(slips(logic, formula), ())


class Examples(unittest.TestCase):
    def test_as_written(self):
        strong, plain = tuple("ffuuuuuttuu"), tuple("fffffffttft")
        either, never = ("or", "a", ("not", "a")), ("and", "a", ("not", "a"))
        self.assertEqual(
            [table(strong, ("and", "a", "b")), value(strong, either, ("u",)), is_sure(strong, either),
             is_sure(plain, either)],
            [("f", "f", "f", "f", "t", "u", "f", "u", "u"), "u", False, True],
        )
        self.assertEqual(
            [gaps(strong, either), filled(never, ("u",)), slips(plain, ("not", "a")), parting(strong, never, "f"),
             alike(plain, never, "f")],
            [(("u",),), "f", (("u",),), ("u",), True],
        )
        self.assertEqual(
            [letters_of(("or", "c", ("and", "a", "u"))), is_once(either), is_formula(("not", "x"))],
            [("a", "c"), False, False],
        )
        with self.assertRaises(BadRow):
            value(strong, either, ("u", "t"))


if __name__ == "__main__":
    unittest.main()
