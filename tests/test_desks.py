"""Point 15: a desk, its lines, and taking formulas back."""

import unittest

from tests.some_formulas import ALL_FIVE, EITHER, FORMULAS, NEVER, some_formulas
from tests.values import NOTHINGS, TOLD
from unknowntables.desks import Desk
from unknowntables.errors import BadLogic, InvalidText, NothingToUndo, NotNow, NotText
from unknowntables.formulas import is_sure, letters_of, table
from unknowntables.texts import write_formula

STRONG = tuple(TOLD["strong"])
NO_STRINGS = [wrong for wrong in NOTHINGS if not isinstance(wrong, str)]

# Lines that mean nothing, with a formula and without one.
INVALID = (
    "", " ", "x", "a", "(a or b)", "undo", "letters", "take", "take ", "take  a", "taker a", "Take a", "TAKE a",
    " take a", "take a ", "take\ta", "take\na", "take a or b", "take (a or b", "take x", "take not", "takea",
    "formula ", " formula", "Formula", "formulas", "formula a", "formul", "formula\n", "form",
    "table ", " table", "Table", "tables", "table ut", "tabl", "table\n",
    "sure ", " sure", "Sure", "sure?", "sur", "sure\n", "yes", "no",
    "Row ut", " row ut", "rows ut", "rowut", "row\tut", "row\nut", "ro", "ut", "row:ut", "\x00", "x" * 100000,
)


class Made(unittest.TestCase):
    def test_bad_logic(self):
        for wrong in (*NOTHINGS, list(STRONG), "".join(STRONG), STRONG[1:], STRONG + ("u",)):
            with self.assertRaises(BadLogic) as caught:
                Desk(wrong)
            self.assertIsNone(caught.exception.index)
        for place in range(11):
            with self.assertRaises(BadLogic) as caught:
                Desk(STRONG[:place] + (["u"],) + STRONG[place + 1:])
            self.assertEqual(caught.exception.index, place)

    def test_nothing_is_taken_at_first(self):
        desk = Desk(STRONG)
        self.assertIsNone(desk.formula)
        self.assertEqual(desk.letters, ())

    def test_two_desks_share_nothing(self):
        one, other = Desk(STRONG), Desk(tuple(TOLD["as false"]))
        one.run("take not a")
        self.assertIsNone(other.formula)
        other.run("take not a")
        self.assertEqual((one.run("table"), other.run("table")), ("tfu", "tft"))


class WithoutFormula(unittest.TestCase):
    def assert_still_none(self, desk):
        self.assertIsNone(desk.formula)
        self.assertEqual(desk.letters, ())
        self.assertRaises(NothingToUndo, desk.undo)

    def test_not_now(self):
        desk = Desk(STRONG)
        for line in ("formula", "table", "sure", "row", "row ", "row  ", "row ut", "row x", "row not at all", "row  u",
                     "row take a", "row \n", "row f" + "t" * 1000):
            with self.subTest(line=line):
                self.assertRaises(NotNow, desk.run, line)
                self.assert_still_none(desk)

    def test_invalid_lines(self):
        desk = Desk(STRONG)
        for line in INVALID:
            with self.subTest(line=line):
                self.assertRaises(InvalidText, desk.run, line)
                self.assert_still_none(desk)

    def test_no_strings(self):
        desk = Desk(STRONG)
        for line in NO_STRINGS:
            self.assertRaises(NotText, desk.run, line)
            self.assert_still_none(desk)

    def test_again_after_all_is_taken_back(self):
        desk = Desk(STRONG)
        desk.run("take a")
        desk.undo()
        for line in ("formula", "table", "sure", "row", "row f"):
            self.assertRaises(NotNow, desk.run, line)
        self.assertRaises(InvalidText, desk.run, "rows")
        self.assert_still_none(desk)


class Lines(unittest.TestCase):
    def test_take(self):
        for formula in FORMULAS:
            desk = Desk(STRONG)
            self.assertIsNone(desk.run("take " + write_formula(formula)))
            self.assertEqual(desk.formula, formula)
            self.assertEqual(desk.letters, letters_of(formula))
            self.assertIs(type(desk.letters), tuple)

    def test_answers(self):
        for name, text in TOLD.items():
            desk = Desk(tuple(text))
            for formula in (*FORMULAS, *some_formulas("abctu", 30, seed=5)):
                desk.run("take " + write_formula(formula))
                with self.subTest(name=name, formula=formula):
                    self.assertEqual(desk.run("formula"), write_formula(formula))
                    self.assertEqual(desk.run("table"), "".join(table(tuple(text), formula)))
                    self.assertEqual(desk.run("sure"), "yes" if is_sure(tuple(text), formula) else "no")

    def test_rows(self):
        desk = Desk(tuple(TOLD["lazy"]))
        desk.run("take (d and not b)")
        rows = [one + other for one in "ftu" for other in "ftu"]
        self.assertEqual("".join(desk.run("row " + row) for row in rows), desk.run("table"))
        for row, answer in (("ft", "t"), ("tf", "f"), ("fu", "u"), ("uf", "f"), ("tu", "u"), ("ut", "u")):
            self.assertEqual(desk.run("row " + row), answer)

    def test_wrong_rows(self):
        desk = Desk(STRONG)
        desk.run("take (a or b)")
        for line in ("row", "row ", "row u", "row utu", "row  ut", "row ut ", "row u t", "row ux", "row UT", "row u,t",
                     "row ab", "row u\n", "row ut\n", "row (a or b)", "row f" + "t" * 1000):
            with self.subTest(line=line):
                self.assertRaises(InvalidText, desk.run, line)
                self.assertEqual(desk.formula, ("or", "a", "b"))

    def test_row_without_letters(self):
        desk = Desk(STRONG)
        desk.run("take (t and u)")
        self.assertEqual(desk.run("row "), "u")
        self.assertEqual(desk.run("table"), "u")
        self.assertEqual(desk.letters, ())
        for line in ("row", "row  ", "row u", "row t"):
            self.assertRaises(InvalidText, desk.run, line)

    def test_five_letters(self):
        desk = Desk(STRONG)
        desk.run("take " + write_formula(ALL_FIVE))
        self.assertEqual(len(desk.run("table")), 243)
        self.assertEqual(desk.run("row fffft"), "f")
        self.assertEqual(desk.run("row ffftt"), "t")
        self.assertRaises(InvalidText, desk.run, "row ffff")
        self.assertRaises(InvalidText, desk.run, "row ffffff")

    def test_invalid_lines_change_nothing(self):
        desk = Desk(STRONG)
        desk.run("take (a or b)")
        for line in INVALID:
            with self.subTest(line=line):
                self.assertRaises(InvalidText, desk.run, line)
                self.assertEqual(desk.formula, ("or", "a", "b"))
        for line in NO_STRINGS:
            self.assertRaises(NotText, desk.run, line)
        desk.undo()
        self.assertRaises(NothingToUndo, desk.undo)

    def test_limits(self):
        desk = Desk(STRONG)
        desk.run("take " + "not " * 8 + "a")
        self.assertRaises(InvalidText, desk.run, "take " + "not " * 9 + "a")
        self.assertRaises(InvalidText, desk.run, "take " + "not " * 100000 + "a")
        self.assertEqual(desk.run("formula"), "not " * 8 + "a")

    def test_asking_takes_nothing(self):
        desk = Desk(STRONG)
        desk.run("take not a")
        for line in ("formula", "table", "sure", "row u", "formula"):
            desk.run(line)
        desk.undo()
        self.assertIsNone(desk.formula)


class Undo(unittest.TestCase):
    def test_nothing_taken(self):
        desk = Desk(STRONG)
        for _ in range(3):
            self.assertRaises(NothingToUndo, desk.undo)
        desk.run("take a")
        self.assertEqual(desk.formula, "a")

    def test_one_after_the_other(self):
        desk = Desk(STRONG)
        taken = [EITHER, NEVER, NEVER, "u", ALL_FIVE]
        for formula in taken:
            desk.run("take " + write_formula(formula))
        for formula in reversed(taken):
            self.assertEqual(desk.formula, formula)
            self.assertEqual(desk.letters, letters_of(formula))
            self.assertIsNone(desk.undo())
        self.assertIsNone(desk.formula)
        self.assertRaises(NothingToUndo, desk.undo)

    def test_take_after_undo(self):
        desk = Desk(STRONG)
        for line in ("take a", "take b"):
            desk.run(line)
        desk.undo()
        desk.run("take c")
        desk.undo()
        self.assertEqual(desk.formula, "a")
        desk.undo()
        self.assertIsNone(desk.formula)


class Examples(unittest.TestCase):
    def test_as_written(self):
        desk = Desk(tuple("ffuuuuuttuu"))
        lines = ("take (a or b)", "table", "row ut", "sure", "take (a or not a)", "table", "formula")
        self.assertEqual(
            [desk.run(line) for line in lines], [None, "ftutttutu", "t", "no", None, "ttu", "(a or not a)"])
        self.assertEqual([desk.undo(), desk.formula, desk.letters], [None, ("or", "a", "b"), ("a", "b")])
        with self.assertRaises(InvalidText):
            desk.run("row t")


if __name__ == "__main__":
    unittest.main()
