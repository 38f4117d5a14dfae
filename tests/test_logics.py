"""Points 2 to 4: answers, logics, and, or, not, the told logics."""

import unittest

from tests.values import NOTHINGS, TOLD
from unknowntables.errors import BadAnswer, BadLogic, BadName
from unknowntables.logics import conj, disj, names, neg, told_logic
from unknowntables.promises import counterexample, keeps, profile

STRONG = tuple("ffuuuuuttuu")

# Where point 2 has the answers of a logic stand.
AND_PLACES = {("f", "u"): 0, ("u", "f"): 1, ("t", "u"): 2, ("u", "t"): 3, ("u", "u"): 4}
OR_PLACES = {("f", "u"): 5, ("u", "f"): 6, ("t", "u"): 7, ("u", "t"): 8, ("u", "u"): 9}
USUAL_AND = {("f", "f"): "f", ("f", "t"): "f", ("t", "f"): "f", ("t", "t"): "t"}
USUAL_OR = {("f", "f"): "f", ("f", "t"): "t", ("t", "f"): "t", ("t", "t"): "t"}

# Calls that take a logic first, with arguments behind it that are valid.
CALLS = (
    (conj, ("f", "t")), (disj, ("f", "t")), (neg, ("f",)),
    (keeps, ("turn",)), (counterexample, ("turn",)), (profile, ()),
)


def index_of(call, logic, rest):
    """The index of the BadLogic that a call raises, "none" if it raises none."""
    try:
        call(logic, *rest)
    except BadLogic as caught:
        return caught.index
    return "none"


def telling_logics():
    """Logics of which no two places have the same answers throughout: each place in base three, and one by one."""
    found = []
    for power in (1, 3, 9):
        for order in ("ftu", "tuf", "uft"):
            found.append(tuple(order[place // power % 3] for place in range(11)))
    for place in range(11):
        for answer, others in ("ft", "tu", "uf"):
            found.append((others,) * place + (answer,) + (others,) * (10 - place))
    return found


class Logics(unittest.TestCase):
    def test_no_tuple_of_eleven(self):
        for call, rest in CALLS:
            for value in (
                list(STRONG), "".join(STRONG), STRONG[1:], STRONG[:-1], STRONG + ("u",), (), STRONG * 2,
                dict.fromkeys(range(11), "f"), None, 11, True, ("".join(STRONG),), (STRONG,), ("x",) * 10, ("x",) * 12,
            ):
                with self.subTest(call=call.__name__, value=value):
                    self.assertIsNone(index_of(call, value, rest))

    def test_first_item_that_is_no_answer(self):
        for call, rest in CALLS:
            for place in range(11):
                for value in NOTHINGS:
                    logic = STRONG[:place] + (value,) + STRONG[place + 1:]
                    self.assertEqual(index_of(call, logic, rest), place, call.__name__)

    def test_of_several_items_the_first(self):
        for place in range(11):
            for later in range(place + 1, 11):
                items = list(STRONG)
                items[place], items[later] = ["u"], "x"
                with self.subTest(place=place, later=later):
                    self.assertEqual(index_of(profile, tuple(items), ()), place)

    def test_all_answers_stand_at_all_places(self):
        for call, rest in CALLS:
            for answer in "ftu":
                for place in range(11):
                    logic = STRONG[:place] + (answer,) + STRONG[place + 1:]
                    self.assertEqual(index_of(call, logic, rest), "none")


class Tables(unittest.TestCase):
    def test_the_logics_tell_the_places_apart(self):
        columns = list(zip(*telling_logics()))
        self.assertEqual(len(set(columns)), 11)

    def test_and(self):
        for logic in telling_logics():
            for pair, answer in USUAL_AND.items():
                self.assertEqual(conj(logic, *pair), answer)
            for pair, place in AND_PLACES.items():
                with self.subTest(logic="".join(logic), pair=pair):
                    self.assertEqual(conj(logic, *pair), logic[place])

    def test_or(self):
        for logic in telling_logics():
            for pair, answer in USUAL_OR.items():
                self.assertEqual(disj(logic, *pair), answer)
            for pair, place in OR_PLACES.items():
                with self.subTest(logic="".join(logic), pair=pair):
                    self.assertEqual(disj(logic, *pair), logic[place])

    def test_not(self):
        for logic in telling_logics():
            with self.subTest(logic="".join(logic)):
                self.assertEqual([neg(logic, one) for one in "ftu"], ["t", "f", logic[10]])

    def test_bad_answers(self):
        for value in ("x", "", "ft", "F", None, True, 1, ["f"], ("f",), {"f": "f"}):
            for known in "ftu":
                with self.subTest(value=value, known=known):
                    self.assertRaises(BadAnswer, conj, STRONG, value, known)
                    self.assertRaises(BadAnswer, conj, STRONG, known, value)
                    self.assertRaises(BadAnswer, disj, STRONG, value, known)
                    self.assertRaises(BadAnswer, disj, STRONG, known, value)
            self.assertRaises(BadAnswer, neg, STRONG, value)


class ToldLogics(unittest.TestCase):
    def test_names(self):
        self.assertEqual(names(), ("as false", "as true", "lazy", "strong", "weak"))
        self.assertIs(type(names()), tuple)

    def test_answer_by_answer(self):
        for name, text in TOLD.items():
            for place, answer in enumerate(text):
                with self.subTest(name=name, place=place):
                    self.assertEqual(told_logic(name)[place], answer)

    def test_tuples_of_eleven(self):
        for name in names():
            self.assertIs(type(told_logic(name)), tuple)
            self.assertEqual(len(told_logic(name)), 11)

    def test_unknown_counts_as_false_or_true(self):
        for name, known in (("as false", "f"), ("as true", "t")):
            logic = told_logic(name)
            for one in "ftu":
                for other in "ftu":
                    pair = tuple(known if answer == "u" else answer for answer in (one, other))
                    self.assertEqual(conj(logic, one, other), USUAL_AND[pair])
                    self.assertEqual(disj(logic, one, other), USUAL_OR[pair])
            self.assertEqual(neg(logic, "u"), {"f": "t", "t": "f"}[known])

    def test_bad_names(self):
        for value in ("", "Strong", "strong ", "as_false", "false", "turn", None, 0, True, ["weak"], ("weak",), {}):
            with self.subTest(value=value):
                self.assertRaises(BadName, told_logic, value)


class Examples(unittest.TestCase):
    def test_as_written(self):
        strong, weak, lazy = told_logic("strong"), told_logic("weak"), told_logic("lazy")
        self.assertEqual(
            [conj(strong, "u", "f"), conj(weak, "u", "f"), conj(lazy, "u", "f"), conj(lazy, "f", "u"),
             disj(strong, "u", "t"), neg(told_logic("as false"), "u")],
            ["f", "u", "u", "f", "t", "t"],
        )
        self.assertEqual([len(names()), "".join(strong)], [5, "ffuuuuuttuu"])
        with self.assertRaises(BadAnswer):
            conj(strong, "u", "x")


if __name__ == "__main__":
    unittest.main()
