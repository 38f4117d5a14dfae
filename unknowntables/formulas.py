"""Formulas of letters and answers, their answers by a logic, and by all fillings (points 10 to 13)."""

from unknowntables.errors import BadFormula, BadRow
from unknowntables.logics import ANSWERS, LENGTH, agreed, all_rows, check_logic, fillings, tables_of

LETTERS = ("a", "b", "c", "d", "e")
MOST_LEAVES = 20
MOST_TUPLES = 8

# How many formulas stand behind a word.
JOINED = {"and": 2, "not": 1, "or": 2}


def is_leaf(thing):
    """Whether a value is a letter or an answer."""
    return thing in LETTERS or thing in ANSWERS


def is_joined(thing):
    """Whether a value is a tuple of a word and of as many items as the word joins."""
    if not isinstance(thing, tuple) or not thing:
        return False
    # A dict cannot be asked for every value, but for every string.
    return isinstance(thing[0], str) and JOINED.get(thing[0]) == len(thing) - 1


def leaves_of(thing, most):
    """The letters and answers in a formula, in their order, however many.

    None for a value that is no formula, or one of more than most tuples one within another.
    """
    if is_leaf(thing):
        return [thing]
    if most == 0 or not is_joined(thing):
        return None
    parts = [leaves_of(part, most - 1) for part in thing[1:]]
    if None in parts:
        return None
    return [leaf for part in parts for leaf in part]


def is_formula(value):
    """Whether a value is a formula."""
    leaves = leaves_of(value, MOST_TUPLES)
    return leaves is not None and len(leaves) <= MOST_LEAVES


def check_formula(formula):
    """Raise BadFormula if a value is no formula."""
    if not is_formula(formula):
        raise BadFormula("no formula, or one that is too large")


def check_known(formula):
    """Raise BadFormula if a value is no formula, or one in which u stands."""
    check_formula(formula)
    if "u" in leaves_of(formula, MOST_TUPLES):
        raise BadFormula("u stands in the formula")


def letters_in(leaves):
    """The letters among letters and answers, ascending, each once."""
    return tuple([letter for letter in LETTERS if letter in leaves])


def letters_of(formula):
    """The letters of a formula, ascending."""
    check_formula(formula)
    return letters_in(leaves_of(formula, MOST_TUPLES))


def is_once(formula):
    """Whether no letter stands in a formula twice."""
    check_formula(formula)
    leaves = leaves_of(formula, MOST_TUPLES)
    return all([leaves.count(letter) < 2 for letter in LETTERS])


def is_row(letters, row):
    """Whether a value is a tuple of an answer for each of some letters."""
    return isinstance(row, tuple) and len(row) == len(letters) and all([item in ANSWERS for item in row])


def check_row(letters, row):
    """Raise BadRow if a value is no row for some letters."""
    if not is_row(letters, row):
        raise BadRow("a row has an answer for each letter of its formula")


def answer_of(tables, formula, told):
    """The answer of a formula by tables of and, or, not and what is told of letters and answers."""
    if is_leaf(formula):
        return told[formula]
    ands, ors, nots = tables
    answers = tuple([answer_of(tables, part, told) for part in formula[1:]])
    if formula[0] == "not":
        return nots[answers[0]]
    return ands[answers] if formula[0] == "and" else ors[answers]


def answer_at(tables, formula, letters, row):
    """The answer of a formula with the answers of a row for letters, among them all of its own."""
    return answer_of(tables, formula, dict(zip(letters + ANSWERS, row + ANSWERS)))


def filled_at(formula, letters, row):
    """The answer of all fillings of a row, u if they have not one answer."""
    # Where all is known any logic answers as usual.
    tables = tables_of(("u",) * LENGTH)
    return agreed([answer_at(tables, formula, letters, filling) for filling in fillings(row)])


def value(logic, formula, row):
    """The answer of a formula with the answers of a row for its letters."""
    check_logic(logic)
    letters = letters_of(formula)
    check_row(letters, row)
    return answer_at(tables_of(logic), formula, letters, row)


def table(logic, formula):
    """The answers of a formula for all rows, ascending."""
    check_logic(logic)
    letters = letters_of(formula)
    tables = tables_of(logic)
    return tuple([answer_at(tables, formula, letters, row) for row in all_rows(len(letters))])


def is_sure(logic, formula):
    """Whether a formula is t for all rows."""
    return all([answer == "t" for answer in table(logic, formula)])


def parting(logic, one, other):
    """The least row for the letters of two formulas at which their answers differ, None if there is none."""
    check_logic(logic)
    letters = letters_in(letters_of(one) + letters_of(other))
    tables = tables_of(logic)
    for row in all_rows(len(letters)):
        if answer_at(tables, one, letters, row) != answer_at(tables, other, letters, row):
            return row
    return None


def alike(logic, one, other):
    """Whether two formulas have the same answers at all rows."""
    return parting(logic, one, other) is None


def filled(formula, row):
    """The usual answer of a formula however the unknown letters of a row are filled, u if that is not one."""
    check_known(formula)
    letters = letters_of(formula)
    check_row(letters, row)
    return filled_at(formula, letters, row)


def compared(logic, formula):
    """All rows for a formula, ascending, each with the answer by a logic and that of all fillings."""
    check_logic(logic)
    check_known(formula)
    letters = letters_of(formula)
    tables = tables_of(logic)
    rows = all_rows(len(letters))
    return [(row, answer_at(tables, formula, letters, row), filled_at(formula, letters, row)) for row in rows]


def gaps(logic, formula):
    """The rows at which all fillings of a formula have one answer and a logic tells u, ascending."""
    return tuple([row for row, told, full in compared(logic, formula) if told == "u" and full != "u"])


def slips(logic, formula):
    """The rows at which a logic tells f or t of a formula and not all fillings have that answer, ascending."""
    return tuple([row for row, told, full in compared(logic, formula) if told not in ("u", full)])
