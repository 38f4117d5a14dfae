"""A count of all 177,147 logics by the promises that they keep, which shares nothing with the program.

Answers are numbers here: 0 for f, 1 for t, 2 for u. A table of two arguments is
a tuple of nine answers, that of a and b at 3 * a + b. Sets of promises are
numbers, with one bit for each promise.
"""

from functools import lru_cache
from itertools import product

NAMES = (
    "absorb", "apart", "growing", "middle", "mirror", "open", "order", "parts",
    "repeat", "spread", "told", "turn", "units", "zeros",
)
BIT = {name: 1 << place for place, name in enumerate(NAMES)}
ALL = (1 << len(NAMES)) - 1

F, T, U = ANSWERS = (0, 1, 2)
PAIRS = list(product(ANSWERS, ANSWERS))
TRIPLES = list(product(ANSWERS, ANSWERS, ANSWERS))


def without(**broken):
    """All promises but those that are told to be broken."""
    kept = ALL
    for name, is_broken in broken.items():
        if is_broken:
            kept &= ~BIT[name]
    return kept


def whole_table(five, usual):
    """The table of a logic's five answers, in the order in which it tells them, and the usual ones."""
    table = [usual(a, b) if U not in (a, b) else None for a, b in PAIRS]
    for (a, b), answer in zip(((F, U), (U, F), (T, U), (U, T), (U, U)), five):
        table[3 * a + b] = answer
    return tuple(table)


def below(less, more):
    return less in (U, more)


def grows(table):
    return all(
        below(table[3 * a + b], table[3 * x + y])
        for a, b in PAIRS for x, y in PAIRS if below(a, x) and below(b, y)
    )


def is_told(table):
    for a, b in PAIRS:
        usual = {table[3 * x + y] for x, y in product((F, T), (F, T)) if below(a, x) and below(b, y)}
        if len(usual) == 1 and table[3 * a + b] not in usual:
            return False
    return True


def kept_alone(table, unit, zero):
    """The promises that a table does not break by itself: for and the unit is t and the zero f."""
    def at(a, b):
        return table[3 * a + b]

    return without(
        growing=not grows(table),
        open=any(at(a, b) != U for a, b in PAIRS if U in (a, b)),
        order=any(at(a, b) != at(b, a) for a, b in PAIRS),
        parts=any(at(at(a, b), c) != at(a, at(b, c)) for a, b, c in TRIPLES),
        repeat=any(at(a, a) != a for a in ANSWERS),
        told=not is_told(table),
        units=any(at(a, unit) != a or at(unit, a) != a for a in ANSWERS),
        zeros=any(at(a, zero) != zero or at(zero, a) != zero for a in ANSWERS),
    )


def kept_by_not(nots):
    return without(growing=nots[U] != U, open=nots[U] != U, turn=nots[nots[U]] != U)


def excludes(table, nots, zero):
    """Whether a table has its zero for an answer and its not."""
    return all(table[3 * a + nots[a]] == zero == table[3 * nots[a] + a] for a in ANSWERS)


def kept_by_both(ands, ors):
    return without(
        absorb=any(ands[3 * a + ors[3 * a + b]] != a or ors[3 * a + ands[3 * a + b]] != a for a, b in PAIRS),
        spread=any(
            ands[3 * a + ors[3 * b + c]] != ors[3 * ands[3 * a + b] + ands[3 * a + c]]
            or ors[3 * a + ands[3 * b + c]] != ands[3 * ors[3 * a + b] + ors[3 * a + c]]
            for a, b, c in TRIPLES
        ),
    )


def mirrors(ands, ors, nots):
    for a, b in PAIRS:
        turned = 3 * nots[a] + nots[b]
        if nots[ands[3 * a + b]] != ors[turned] or nots[ors[3 * a + b]] != ands[turned]:
            return False
    return True


@lru_cache(maxsize=None)
def census():
    """For each set of promises that some logic keeps, and no other promise: how many do, and the least as a text."""
    fives = list(product(ANSWERS, repeat=5))
    all_ands = [whole_table(five, min) for five in fives]
    all_ors = [whole_table(five, max) for five in fives]
    all_nots = [(T, F, answer) for answer in ANSWERS]
    by_and = [kept_alone(table, T, F) for table in all_ands]
    by_or = [kept_alone(table, F, T) for table in all_ors]
    by_not = [kept_by_not(nots) for nots in all_nots]
    by_and_not = [[without(apart=not excludes(table, nots, F)) for nots in all_nots] for table in all_ands]
    by_or_not = [[without(middle=not excludes(table, nots, T)) for nots in all_nots] for table in all_ors]
    found = {}
    for i, ands in enumerate(all_ands):
        for j, ors in enumerate(all_ors):
            shared = by_and[i] & by_or[j] & kept_by_both(ands, ors)
            for k, nots in enumerate(all_nots):
                kept = shared & by_not[k] & by_and_not[i][k] & by_or_not[j][k]
                kept &= without(mirror=not mirrors(ands, ors, nots))
                # Ascending: the first logic that is found is the least.
                many, least = found.get(kept, (0, None))
                found[kept] = (many + 1, least or "".join("ftu"[item] for item in (*fives[i], *fives[j], nots[U])))
    return found


def bits_of(names):
    return sum(BIT[name] for name in names)


def counted(names):
    """How many logics keep some promises, and the least of them as a text, None if there is none."""
    wanted = bits_of(names)
    found = [entry for kept, entry in census().items() if kept & wanted == wanted]
    return sum(many for many, _ in found), min((least for _, least in found), default=None)
