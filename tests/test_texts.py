"""Point 14: the texts of logics and of formulas."""

import unittest

from tests.some_formulas import (
    ALL_FIVE, DEEP, FORMULAS, NO_FORMULAS, TOO_DEEP, TWENTY, TWENTY_ONE, chain, right_hand, some_formulas,
)
from tests.values import NOTHINGS, TOLD, sample
from unknowntables.errors import BadFormula, BadLogic, InvalidText, NotText
from unknowntables.texts import read_formula, read_logic, write_formula, write_logic

STRONG = tuple(TOLD["strong"])
NO_STRINGS = (None, True, False, 0, 1, [], ["a"], (), ("a",), ("not", "a"), STRONG, {}, {"a": "a"}, [["f"] * 11])

# Formulas and their texts, by hand.
TEXTS = {
    "a": "a", "e": "e", "f": "f", "t": "t", "u": "u",
    "not a": ("not", "a"),
    "not u": ("not", "u"),
    "not not e": ("not", ("not", "e")),
    "(a and b)": ("and", "a", "b"),
    "(a or b)": ("or", "a", "b"),
    "(f or u)": ("or", "f", "u"),
    "not (a and b)": ("not", ("and", "a", "b")),
    "(not a and b)": ("and", ("not", "a"), "b"),
    "(a and not b)": ("and", "a", ("not", "b")),
    "(not a or not not b)": ("or", ("not", "a"), ("not", ("not", "b"))),
    "((a and b) or c)": ("or", ("and", "a", "b"), "c"),
    "(a and (b or c))": ("and", "a", ("or", "b", "c")),
    "(a and not (b or u))": ("and", "a", ("not", ("or", "b", "u"))),
    "((a or b) and not (c or (d and e)))": ("and", ("or", "a", "b"), ("not", ("or", "c", ("and", "d", "e")))),
    "not not not not not not not not t": chain(8, "t"),
}

# No text of a formula, though most are almost one.
ALMOST = (
    "", " ", "  ", "x", "A", "g", "ab", "aa", "a ", " a", "a\n", "\na", "a\t", "ft",
    "a and b", "a or b", "not a and b", "a and not b", "a and (b or c)", "(a and b) or c", "(a)", "(not a)",
    "((a and b))", "()", "( )", "(", ")", "(a", "a)", "(a and b", "a and b)", "(a and b))", "((a and b)", "(a and b) ", " (a and b)",
    "( a and b)", "(a and b )", "(a  and b)", "(a and  b)", "(aand b)", "(a andb)", "(aandb)", "(a and  not b)",
    "(and a b)", "(a b and)", "(a b)", "(a and)", "(and b)", "(a and )", "( and b)", "(a and b and c)", "(a or b or c)",
    "(a and b or c)", "(a And b)", "(a AND b)", "(a nor b)", "(a xor b)", "(a & b)", "(a an b)", "(a o b)", "(a orb)",
    "(a,and,b)", "(a\tand b)", "(a and\nb)", "[a and b]", "{a and b}", "(a and x)", "(x or b)", "(a not b)",
    "not", "not ", "nota", "not  a", " not a", "not a ", "Not a", "NOT a", "not x", "not not", "not not ", "notnot a",
    "not  not a", "not notnot a", "nott", "not(a and b)", "not (a and b", "not a and b)", "no a", "~a", "-a", "not, a",
    "('not', 'a')", "('and', 'a', 'b')", '"a"', "'a'", "None", "True", "1", "a" * 11, "\x00", "\u00e4", "\u0430",
    "(a and b)(a and b)", "(a and b)a", "a(a and b)", "(a and b) (a or b)", "not anot b", "(a and b)\n",
)


class Logics(unittest.TestCase):
    def test_both_ways(self):
        for text in sample()[::5]:
            self.assertEqual(read_logic(text), tuple(text))
            self.assertIs(type(read_logic(text)), tuple)
            self.assertEqual(write_logic(tuple(text)), text)

    def test_write_bad_logics(self):
        for wrong in (*NOTHINGS, list(STRONG), "".join(STRONG), STRONG[1:], STRONG + ("u",)):
            with self.assertRaises(BadLogic) as caught:
                write_logic(wrong)
            self.assertIsNone(caught.exception.index)
        for place in range(11):
            with self.assertRaises(BadLogic) as caught:
                write_logic(STRONG[:place] + ("x",) + STRONG[place + 1:])
            self.assertEqual(caught.exception.index, place)
        with self.assertRaises(BadLogic) as caught:
            write_logic(("f", "tu") + ("f",) * 9)
        self.assertEqual(caught.exception.index, 1)

    def test_read_no_strings(self):
        for wrong in NO_STRINGS:
            with self.subTest(wrong=wrong):
                self.assertRaises(NotText, read_logic, wrong)

    def test_read_invalid_texts(self):
        for wrong in ("", "f", "uuuuuuuuuu", "uuuuuuuuuuuu", "ffuuuuuttux", "xfuuuuuttuu", "FFUUUUUTTUU", "ffuuu uttuu",
                      " ffuuuuuttuu", "ffuuuuuttuu ", "ffuuuuuttuu\n", "f,f,u,u,u,u,u,t,t,u,u", "strong", "abcdefghijk",
                      "ffuuu\x00uttuu", "ffuuu\u00fcuttuu", " " * 11, "ffuuuuuttuu" * 2, "u" * 100000):
            with self.subTest(wrong=wrong):
                self.assertRaises(InvalidText, read_logic, wrong)


class Formulas(unittest.TestCase):
    def test_by_hand(self):
        for text, formula in TEXTS.items():
            with self.subTest(text=text):
                self.assertEqual(write_formula(formula), text)
                self.assertEqual(read_formula(text), formula)

    def test_both_ways(self):
        for formula in (*FORMULAS, *some_formulas("abcdeftu", 400, seed=7)):
            self.assertEqual(read_formula(write_formula(formula)), formula)

    def test_write_bad_formulas(self):
        for wrong in (*NO_FORMULAS, *NOTHINGS, "(a and b)", "not a"):
            with self.subTest(wrong=wrong):
                self.assertRaises(BadFormula, write_formula, wrong)

    def test_read_no_strings(self):
        for wrong in NO_STRINGS:
            with self.subTest(wrong=wrong):
                self.assertRaises(NotText, read_formula, wrong)

    def test_almost_right(self):
        for wrong in ALMOST:
            with self.subTest(wrong=wrong):
                self.assertRaises(InvalidText, read_formula, wrong)

    def test_each_sign_missing_or_doubled(self):
        for text in TEXTS:
            for place, sign in enumerate(text):
                for wrong in (text[:place] + text[place + 1:], text[:place] + sign + text[place:]):
                    if wrong not in TEXTS:
                        self.assertRaises(InvalidText, read_formula, wrong)

    def test_each_beginning(self):
        for text in TEXTS:
            for end in range(len(text)):
                if text[:end] not in TEXTS:
                    self.assertRaises(InvalidText, read_formula, text[:end])

    def test_limits_of_letters_and_answers(self):
        for formula in TWENTY:
            self.assertEqual(read_formula(unchecked_text(formula)), formula)
        for formula in (*TWENTY_ONE, right_hand("ab" * 60)):
            self.assertRaises(InvalidText, read_formula, unchecked_text(formula))

    def test_limits_of_tuples(self):
        for formula in DEEP:
            self.assertEqual(read_formula(unchecked_text(formula)), formula)
        for formula in TOO_DEEP:
            self.assertRaises(InvalidText, read_formula, unchecked_text(formula))

    def test_very_long_texts(self):
        for wrong in ("not " * 100000 + "a", "(" * 100000, "(" * 100000 + "a", "(a and " * 100000 + "b" + ")" * 100000,
                      "a" * 100000, " " * 100000, "(a or b)" * 100000):
            self.assertRaises(InvalidText, read_formula, wrong)

    def test_all_five(self):
        text = "((e and d) or (not c and (b or a)))"
        self.assertEqual(write_formula(ALL_FIVE), text)
        self.assertEqual(read_formula(text), ALL_FIVE)


def unchecked_text(formula):
    """The text that a formula would have, were it not too large."""
    if isinstance(formula, str):
        return formula
    if formula[0] == "not":
        return "not " + unchecked_text(formula[1])
    return "(" + unchecked_text(formula[1]) + " " + formula[0] + " " + unchecked_text(formula[2]) + ")"


class Examples(unittest.TestCase):
    def test_as_written(self):
        self.assertEqual(
            [read_formula("(a and not (b or u))"), write_formula(("not", ("not", "e"))),
             read_logic("uuuuuuuuuuu") == ("u",) * 11, write_logic(tuple("ffuuuuuttuu"))],
            [("and", "a", ("not", ("or", "b", "u"))), "not not e", True, "ffuuuuuttuu"],
        )
        with self.assertRaises(InvalidText):
            read_formula("a and b")


if __name__ == "__main__":
    unittest.main()
