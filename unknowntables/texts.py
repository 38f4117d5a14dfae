"""The texts of logics and of formulas (point 14)."""

from unknowntables.errors import BadLogic, InvalidText, NotText
from unknowntables.formulas import MOST_TUPLES, check_formula, is_formula, is_leaf
from unknowntables.logics import check_logic


def check_text(text):
    """Raise NotText if a value is no string."""
    if not isinstance(text, str):
        raise NotText("a text is a string")


def write_logic(logic):
    """The text of a logic."""
    check_logic(logic)
    return "".join(logic)


def read_logic(text):
    """The logic that has a text."""
    check_text(text)
    logic = tuple(text)
    try:
        check_logic(logic)
    except BadLogic:
        raise InvalidText("the text of a logic is eleven answers") from None
    return logic


def text_of(formula):
    """The text of a formula, which is not checked."""
    if is_leaf(formula):
        return formula
    texts = [text_of(part) for part in formula[1:]]
    if formula[0] == "not":
        return f"not {texts[0]}"
    return f"({texts[0]} {formula[0]} {texts[1]})"


def write_formula(formula):
    """The text of a formula."""
    check_formula(formula)
    return text_of(formula)


def behind(text, at, sign):
    """The place behind a sign that has to stand at a place of a text."""
    end = at + len(sign)
    if text[at:end] != sign:
        raise InvalidText(f"no {sign!r} where it has to stand")
    return end


def read_part(text, at, most):
    """The formula that begins at a place of a text, and the place behind it.

    At most so many tuples stand in it one within another, so that no text leads too deep.
    """
    if is_leaf(text[at:at + 1]):
        return text[at], at + 1
    if most == 0:
        raise InvalidText("too many words one within another")
    if text[at:at + 1] == "(":
        return read_joined(text, at + 1, most)
    part, end = read_part(text, behind(text, at, "not "), most - 1)
    return ("not", part), end


def read_joined(text, at, most):
    """The formula of which the first part begins at a place of a text, and the place behind its last bracket."""
    one, end = read_part(text, at, most - 1)
    word = "and" if text[end:end + 5] == " and " else "or"
    other, end = read_part(text, behind(text, end, f" {word} "), most - 1)
    return (word, one, other), behind(text, end, ")")


def read_formula(text):
    """The formula that has a text."""
    check_text(text)
    formula, end = read_part(text, 0, MOST_TUPLES)
    if end != len(text) or not is_formula(formula):
        raise InvalidText("more than a formula, or too large a one")
    return formula
