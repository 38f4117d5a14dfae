"""Answers, logics, and what a logic makes of and, or, not (points 2 to 4)."""

from unknowntables.errors import BadAnswer, BadLogic, BadName

# Ascending: rows of answers that are built from them come in the order of tuples.
ANSWERS = ("f", "t", "u")
LENGTH = 11

# The pairs of known answers stand first, the others in the order in which a logic tells their answers.
PAIRS = (
    ("f", "f"), ("f", "t"), ("t", "f"), ("t", "t"),
    ("f", "u"), ("u", "f"), ("t", "u"), ("u", "t"), ("u", "u"),
)
USUAL_AND = ("f", "f", "f", "t")
USUAL_OR = ("f", "t", "t", "t")
USUAL_NOT = ("t", "f")

# What an answer may be replaced by if it has to be known.
FILLED = {"f": ("f",), "t": ("t",), "u": ("f", "t")}

TOLD_LOGICS = {
    "as false": "fffffffttft",
    "as true": "ffttttttttf",
    "lazy": "fuuuuuutuuu",
    "strong": "ffuuuuuttuu",
    "weak": "uuuuuuuuuuu",
}


def check_answer(value):
    """Raise BadAnswer if a value is no answer."""
    # Not asked of a string, in which "" and "ft" lie, nor of a dict, which cannot be asked for a list.
    if value not in ANSWERS:
        raise BadAnswer("an answer is f, t or u")


def check_logic(value):
    """Raise BadLogic if a value is no logic."""
    if not isinstance(value, tuple) or len(value) != LENGTH:
        raise BadLogic(None)
    for index, item in enumerate(value):
        if item not in ANSWERS:
            raise BadLogic(index)


def and_table(told):
    """The answers of and for all pairs, or for the first of them if told lacks the last ones."""
    return dict(zip(PAIRS, USUAL_AND + told))


def or_table(told):
    """The answers of or for all pairs, or for the first of them if told lacks the last ones."""
    return dict(zip(PAIRS, USUAL_OR + told))


def not_table(told):
    """The answers of not for all answers, or for the known ones if told is empty."""
    return dict(zip(ANSWERS, USUAL_NOT + told))


def tables_of(logic):
    """The tables of and, or, not of a logic."""
    return and_table(logic[:5]), or_table(logic[5:10]), not_table(logic[10:])


def all_rows(length):
    """All tuples of so many answers, ascending."""
    rows = [()]
    for _ in range(length):
        rows = [(*row, answer) for row in rows for answer in ANSWERS]
    return rows


def fillings(row):
    """All rows that a row becomes if its unknown answers are replaced by known ones."""
    rows = [()]
    for answer in row:
        rows = [(*begun, known) for begun in rows for known in FILLED[answer]]
    return rows


def agreed(answers):
    """The answer that all of some answers are, u if they are not one."""
    return answers[0] if answers.count(answers[0]) == len(answers) else "u"


def conj(logic, one, other):
    """The answer of one and other."""
    check_logic(logic)
    check_answer(one)
    check_answer(other)
    ands, _, _ = tables_of(logic)
    return ands[(one, other)]


def disj(logic, one, other):
    """The answer of one or other."""
    check_logic(logic)
    check_answer(one)
    check_answer(other)
    _, ors, _ = tables_of(logic)
    return ors[(one, other)]


def neg(logic, one):
    """The answer of not one."""
    check_logic(logic)
    check_answer(one)
    _, _, nots = tables_of(logic)
    return nots[one]


def names():
    """The names of the told logics, ascending."""
    return tuple(sorted(TOLD_LOGICS))


def told_logic(name):
    """The told logic of a name."""
    if not isinstance(name, str) or name not in TOLD_LOGICS:
        raise BadName("no told logic has this name")
    return tuple(TOLD_LOGICS[name])
