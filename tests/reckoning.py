"""A reckoning of the promises that shares nothing with the program.

Each promise is a list of parts, told by a word; each part is a function of a
logic, given as a text of eleven answers, and of a row. Most parts are
equations in Python's own signs, which the class Term computes by the logic.
"""

from itertools import product

ORDER_OF_ANDS = ("fu", "uf", "tu", "ut", "uu")


class Term:
    """An answer that is joined to others by &, | and ~ as a logic tells."""

    def __init__(self, text, answer):
        self.text = text
        self.answer = answer

    def joined(self, other, from_place, usual):
        pair = self.answer + other.answer
        if "u" in pair:
            return Term(self.text, self.text[from_place + ORDER_OF_ANDS.index(pair)])
        return Term(self.text, "ft"[usual(pair.count("t"))])

    def __and__(self, other):
        return self.joined(other, 0, lambda many: many == 2)

    def __or__(self, other):
        return self.joined(other, 5, lambda many: many >= 1)

    def __invert__(self):
        return Term(self.text, {"f": "t", "t": "f", "u": self.text[-1]}[self.answer])


def equation(sides):
    """A part that holds if all the sides, told as "x = y = z", have one answer."""
    compiled = [compile(side.strip(), sides, "eval") for side in sides.split("=")]

    def holds(text, row):
        terms = {name: Term(text, answer) for name, answer in zip("abc", row)}
        terms.update({"f": Term(text, "f"), "t": Term(text, "t")})
        return len({eval(side, {}, terms).answer for side in compiled}) == 1

    return holds


def answer_of(sign, text, arguments):
    terms = [Term(text, argument) for argument in arguments]
    if sign == "~":
        return (~terms[0]).answer
    return (terms[0] & terms[1] if sign == "&" else terms[0] | terms[1]).answer


def is_below(less, more):
    """Whether more is less, or tells what less leaves unknown."""
    return all(one in ("u", other) for one, other in zip(less, more))


def grows(sign):
    """A part that holds if no row that tells more has an answer that does not."""

    def holds(text, row):
        arguments = row[:1] if sign == "~" else row
        answer = answer_of(sign, text, arguments)
        above = [more for more in product("ftu", repeat=len(arguments)) if is_below(arguments, more)]
        return all(is_below(answer, answer_of(sign, text, more)) for more in above)

    return holds


def stays_open(sign):
    def holds(text, row):
        arguments = row[:1] if sign == "~" else row
        return "u" not in arguments or answer_of(sign, text, arguments) == "u"

    return holds


def tells_all(sign):
    """A part that holds if what all ways to fill a row agree on is told."""

    def holds(text, row):
        bools = [{"f": (False,), "t": (True,), "u": (False, True)}[answer] for answer in row]
        usual = {(one and other) if sign == "&" else (one or other) for one, other in product(*bools)}
        return len(usual) == 2 or answer_of(sign, text, row) == "ft"[usual.pop()]

    return holds


# The promises: how long a row is, then the parts by their words.
PARTS = {
    "absorb": (2, {"and": equation("a & (a | b) = a"), "or": equation("a | (a & b) = a")}),
    "apart": (1, {"not behind": equation("a & ~a = f"), "not ahead": equation("~a & a = f")}),
    "growing": (2, {"and": grows("&"), "or": grows("|"), "not": grows("~")}),
    "middle": (1, {"not behind": equation("a | ~a = t"), "not ahead": equation("~a | a = t")}),
    "mirror": (2, {"and": equation("~(a & b) = ~a | ~b"), "or": equation("~(a | b) = ~a & ~b")}),
    "open": (2, {"and": stays_open("&"), "or": stays_open("|"), "not": stays_open("~")}),
    "order": (2, {"and": equation("a & b = b & a"), "or": equation("a | b = b | a")}),
    "parts": (3, {"and": equation("(a & b) & c = a & (b & c)"), "or": equation("(a | b) | c = a | (b | c)")}),
    "repeat": (1, {"and": equation("a & a = a"), "or": equation("a | a = a")}),
    "spread": (3, {
        "and": equation("a & (b | c) = (a & b) | (a & c)"),
        "or": equation("a | (b & c) = (a | b) & (a | c)"),
    }),
    "told": (2, {"and": tells_all("&"), "or": tells_all("|")}),
    "turn": (1, {"not": equation("~~a = a")}),
    "units": (1, {
        "and t": equation("a & t = a"), "t and": equation("t & a = a"),
        "or f": equation("a | f = a"), "f or": equation("f | a = a"),
    }),
    "zeros": (1, {
        "and f": equation("a & f = f"), "f and": equation("f & a = f"),
        "or t": equation("a | t = t"), "t or": equation("t | a = t"),
    }),
}


def breaking_rows(text, promise, part):
    """The rows at which a logic breaks a part of a promise, in no order that is promised."""
    length, parts = PARTS[promise]
    return {row for row in product("utf", repeat=length) if not parts[part](text, row)}


def broken_parts(text, promise):
    """The parts of a promise that a logic breaks."""
    return [part for part in PARTS[promise][1] if breaking_rows(text, promise, part)]


def reckoned_counterexample(text, promise):
    """The least row at which a logic breaks a promise, None if there is none."""
    broken = set()
    for part in PARTS[promise][1]:
        broken |= breaking_rows(text, promise, part)
    return min(broken) if broken else None


def signs_of(formula):
    """A formula in Python's own signs: its letters as they are, its answers as names of their own."""
    if isinstance(formula, str):
        return formula if formula in "abcde" else f"_{formula}"
    if formula[0] == "not":
        return f"(~{signs_of(formula[1])})"
    return f"({signs_of(formula[1])} {'&' if formula[0] == 'and' else '|'} {signs_of(formula[2])})"


def reckoned_value(text, formula, answers):
    """The answer of a formula by a logic, by a dict of its letters' answers."""
    terms = {letter: Term(text, answer) for letter, answer in answers.items()}
    terms.update({f"_{answer}": Term(text, answer) for answer in "ftu"})
    return eval(signs_of(formula), {}, terms).answer


def usual_value(formula, answers):
    """The answer of a formula, all known, by Python's own and, or, not."""
    if isinstance(formula, str):
        return answers.get(formula, formula) == "t"
    parts = [usual_value(part, answers) for part in formula[1:]]
    return not parts[0] if formula[0] == "not" else all(parts) if formula[0] == "and" else any(parts)


def reckoned_filled(formula, answers):
    """The answer of a formula for all ways to fill the unknown letters, "u" if that is not one."""
    unknown = [letter for letter, answer in answers.items() if answer == "u"]
    found = {
        usual_value(formula, {**answers, **dict(zip(unknown, filling))})
        for filling in product("ft", repeat=len(unknown))
    }
    return "u" if len(found) == 2 else "ft"[found.pop()]
