"""Answers, logics, and what a logic makes of and, or, not (points 2 to 4)."""

from unknowntables.errors import BadAnswer, BadLogic, BadName

# Ascending: rows of answers that are built from them come in the order of tuples.
ANSWERS = ("f", "t", "u")
LENGTH = 11

# The pairs of known answers stand first, the others in the order in which a logic tells their answers.
PAIRS = (
    ("f", "f"), ("f", "t"), ("t", "f"), ("t", "t"),
    ("f", "u"), ("u", "f"), ("t", "u"), ("u", "t"), ("u", "u"),
)
USUAL_AND = ("f", "f", "f", "t")
USUAL_OR = ("f", "t", "t", "t")
USUAL_NOT = ("t", "f")

TOLD_LOGICS = {
    "as false": "fffffffttft",
    "as true": "ffttttttttf",
    "lazy": "fuuuuuutuuu",
    "strong": "ffuuuuuttuu",
    "weak": "uuuuuuuuuuu",
}


def check_answer(value):
    """Raise BadAnswer if a value is no answer."""
    # Not asked of a string, in which "" and "ft" lie, nor of a dict, which cannot be asked for a list.
    if value not in ANSWERS:
        raise BadAnswer("an answer is f, t or u")


def check_logic(value):
    """Raise BadLogic if a value is no logic."""
    if not isinstance(value, tuple) or len(value) != LENGTH:
        raise BadLogic(None)
    for index, item in enumerate(value):
        if item not in ANSWERS:
            raise BadLogic(index)


def and_table(logic):
    """The answers of and, for all pairs of answers."""
    return dict(zip(PAIRS, USUAL_AND + logic[:5]))


def or_table(logic):
    """The answers of or, for all pairs of answers."""
    return dict(zip(PAIRS, USUAL_OR + logic[5:10]))


def not_table(logic):
    """The answers of not, for all answers."""
    return dict(zip(ANSWERS, USUAL_NOT + logic[10:]))


def all_rows(length):
    """All tuples of so many answers, ascending."""
    rows = [()]
    for _ in range(length):
        rows = [(*row, answer) for row in rows for answer in ANSWERS]
    return rows


def conj(logic, one, other):
    """The answer of one and other."""
    check_logic(logic)
    check_answer(one)
    check_answer(other)
    return and_table(logic)[(one, other)]


def disj(logic, one, other):
    """The answer of one or other."""
    check_logic(logic)
    check_answer(one)
    check_answer(other)
    return or_table(logic)[(one, other)]


def neg(logic, one):
    """The answer of not one."""
    check_logic(logic)
    check_answer(one)
    return not_table(logic)[one]


def names():
    """The names of the told logics, ascending."""
    return tuple(sorted(TOLD_LOGICS))


def told_logic(name):
    """The told logic of a name."""
    if not isinstance(name, str) or name not in TOLD_LOGICS:
        raise BadName("no told logic has this name")
    return tuple(TOLD_LOGICS[name])
