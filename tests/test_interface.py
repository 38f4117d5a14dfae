"""The interface: each name is defined in the file under whose heading it stands, with the arguments listed there."""

import importlib
import inspect
import unittest

from unknowntables.desks import Desk

FUNCTIONS = {
    "logics": ("conj(logic, one, other)", "disj(logic, one, other)", "neg(logic, one)", "names()", "told_logic(name)"),
    "promises": ("promises()", "profile(logic)", "keeps(logic, promise)", "counterexample(logic, promise)"),
    "maps": (
        "can_hold(wanted)", "greatest_sets()", "can_add(wanted)", "least_clashes()", "clashes(wanted)",
        "count_logics(wanted)", "least_logic(wanted)",
    ),
    "formulas": (
        "is_formula(value)", "is_once(formula)", "is_sure(logic, formula)", "alike(logic, one, other)",
        "letters_of(formula)", "table(logic, formula)", "gaps(logic, formula)", "slips(logic, formula)",
        "value(logic, formula, row)", "filled(formula, row)", "parting(logic, one, other)",
    ),
    "texts": ("write_logic(logic)", "write_formula(formula)", "read_logic(text)", "read_formula(text)"),
}


class Interface(unittest.TestCase):
    def test_functions(self):
        for module, told in FUNCTIONS.items():
            for line in told:
                name, arguments = line.split("(", 1)
                with self.subTest(module=module, name=name):
                    found = getattr(importlib.import_module(f"unknowntables.{module}"), name)
                    self.assertTrue(inspect.isfunction(found))
                    self.assertEqual(found.__module__, f"unknowntables.{module}")
                    self.assertEqual(str(inspect.signature(found)), f"({arguments}")

    def test_desk(self):
        self.assertEqual(Desk.__module__, "unknowntables.desks")
        self.assertEqual(str(inspect.signature(Desk)), "(logic)")
        self.assertEqual(str(inspect.signature(vars(Desk)["run"])), "(self, line)")
        self.assertEqual(str(inspect.signature(vars(Desk)["undo"])), "(self)")
        for name in ("formula", "letters"):
            self.assertIsInstance(vars(Desk)[name], property)


if __name__ == "__main__":
    unittest.main()
