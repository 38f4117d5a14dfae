"""Formulas that the tests share, and values that are none."""

from random import Random

LETTERS = "abcde"
ANSWERS = "ftu"


def right_hand(leaves):
    """A formula of few tuples one within another that has these letters and answers."""
    if len(leaves) == 1:
        return leaves[0]
    half = len(leaves) // 2
    return ("and" if len(leaves) % 2 else "or", right_hand(leaves[:half]), right_hand(leaves[half:]))


def chain(depth, end="a"):
    """A formula of so many tuples one within another, and of one letter."""
    formula = end
    for _ in range(depth):
        formula = ("not", formula)
    return formula


def ladder(depth, end="a", side="b"):
    """A formula of so many tuples one within another, with a letter or answer more in each."""
    formula = end
    for place in range(depth):
        formula = ("or", formula, side) if place % 2 else ("and", side, formula)
    return formula


def grown(random, leaves, depth):
    """A formula from a random source, with letters and answers of some, and not too large."""
    if depth == 0 or random.random() < 0.25:
        return random.choice(leaves)
    word = random.choice(("not", "and", "or", "and", "or"))
    if word == "not":
        return (word, grown(random, leaves, depth - 1))
    return (word, grown(random, leaves, depth - 1), grown(random, leaves, depth - 1))


def leaves_in(formula):
    if isinstance(formula, str):
        return [formula]
    return [leaf for part in formula[1:] for leaf in leaves_in(part)]


def some_formulas(leaves, many, seed=1):
    """Different formulas of the letters and answers that are given, the same at each run."""
    random = Random(seed)
    found = {}
    while len(found) < many:
        formula = grown(random, leaves, random.choice((1, 2, 2, 3, 3, 4, 5)))
        if len(leaves_in(formula)) <= 12:
            found[formula] = True
    return list(found)


EITHER = ("or", "a", ("not", "a"))
NEVER = ("and", "a", ("not", "a"))
WITHOUT_LETTERS = ("t", "f", "u", ("not", "u"), ("and", "t", ("or", "u", "f")))
ALL_FIVE = ("or", ("and", "e", "d"), ("and", ("not", "c"), ("or", "b", "a")))

# The limits, and what stands just beyond them.
TWENTY = (right_hand("abcde" * 4), right_hand("ftuab" * 4), right_hand("u" * 20), right_hand("a" * 20))
TWENTY_ONE = (right_hand("abcde" * 4 + "a"), right_hand("t" * 21), right_hand("abcdu" * 4 + "f"))
DEEP = (chain(8), ladder(8), ladder(8, "u", "t"), ("or", chain(7), "b"), ("and", "t", chain(7)))
TOO_DEEP = (chain(9), ladder(9), ("or", chain(8), "b"), ("and", "t", chain(8)), ("not", ladder(8)), chain(40))

FORMULAS = (
    *LETTERS, *ANSWERS, EITHER, NEVER, *WITHOUT_LETTERS, ALL_FIVE, *TWENTY, *DEEP,
    ("not", "a"), ("and", "a", "b"), ("or", "e", "e"), ("or", "c", ("and", "a", "u")),
)

# Wrong anywhere in a formula.
WRONG_PARTS = (
    None, True, False, 0, 1, -3, "", " ", "A", "x", "ab", "g", "not", "and", "or", "a ", "(a or b)", (), ("a",),
    ("not",), ("not", "a", "b"), ("and", "a"), ("and", "a", "b", "c"), ("or",), ("or", "a"), ("or", "a", "b", "c"),
    ("And", "a", "b"), ("NOT", "a"), ("xor", "a", "b"), ("a", "and", "b"), ("a", "not"), ("f", "a", "b"),
    ["not", "a"], ["and", "a", "b"], ("and", ["not", "a"], "b"), {"not": "a"}, {}, [], [[]], ("a", "b"),
    (["not"], "a"), ({"and": 1}, "a", "b"), (("not",), "a"), (None, "a"), (True, "a", "b"), (2, "a", "b"), (1, "a"),
    ("not", None), ("not", 1), ("not", "x"), ("not", ("not", [])), ("and", "a", {}), ("or", True, "b"),
    ("or", "a", ("and", "b", ("not", ""))), (("a", "and", "b"),), ((),),
)

NO_FORMULAS = (
    *WRONG_PARTS, *TWENTY_ONE, *TOO_DEEP,
    *[("not", wrong) for wrong in WRONG_PARTS], *[("and", wrong, "a") for wrong in WRONG_PARTS],
    *[("or", "b", ("or", "a", wrong)) for wrong in WRONG_PARTS],
)
