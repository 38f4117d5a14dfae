"""The fourteen promises, and which of them a logic keeps (points 5 and 6)."""

from unknowntables.errors import BadPromise
from unknowntables.logics import agreed, all_rows, check_logic, fillings, tables_of

# What an answer may be replaced by, itself among it.
GROWN = {"f": ("f",), "t": ("t",), "u": ("f", "t", "u")}


def holds_absorb(tables, row):
    ands, ors, _ = tables
    a, b = row
    return ands[(a, ors[(a, b)])] == a and ors[(a, ands[(a, b)])] == a


def holds_apart(tables, row):
    ands, _, nots = tables
    a = row[0]
    return ands[(a, nots[a])] == "f" and ands[(nots[a], a)] == "f"


def stays(table, a, b):
    """Whether a known answer of a table stays the same however unknown arguments are replaced."""
    answer = table[(a, b)]
    return answer == "u" or all([table[(x, y)] == answer for x in GROWN[a] for y in GROWN[b]])


def holds_growing(tables, row):
    ands, ors, nots = tables
    a, b = row
    not_stays = nots[a] == "u" or all([nots[x] == nots[a] for x in GROWN[a]])
    return stays(ands, a, b) and stays(ors, a, b) and not_stays


def holds_middle(tables, row):
    _, ors, nots = tables
    a = row[0]
    return ors[(a, nots[a])] == "t" and ors[(nots[a], a)] == "t"


def holds_mirror(tables, row):
    ands, ors, nots = tables
    a, b = row
    and_turns = nots[ands[(a, b)]] == ors[(nots[a], nots[b])]
    or_turns = nots[ors[(a, b)]] == ands[(nots[a], nots[b])]
    return and_turns and or_turns


def holds_open(tables, row):
    ands, ors, nots = tables
    if "u" not in row:
        return True
    # Only the first answer counts for not: point 6 has a pair break the promise by not a.
    not_open = row[0] != "u" or nots["u"] == "u"
    return ands[row] == "u" and ors[row] == "u" and not_open


def holds_order(tables, row):
    ands, ors, _ = tables
    a, b = row
    return ands[(a, b)] == ands[(b, a)] and ors[(a, b)] == ors[(b, a)]


def is_grouped(table, row):
    """Whether it makes no difference which two of three arguments come first."""
    a, b, c = row
    return table[(table[(a, b)], c)] == table[(a, table[(b, c)])]


def holds_parts(tables, row):
    ands, ors, _ = tables
    return is_grouped(ands, row) and is_grouped(ors, row)


def holds_repeat(tables, row):
    ands, ors, _ = tables
    a = row[0]
    return ands[(a, a)] == a and ors[(a, a)] == a


def is_spread(outer, inner, row):
    """Whether an outer operation may be carried out on each argument of an inner one."""
    a, b, c = row
    return outer[(a, inner[(b, c)])] == inner[(outer[(a, b)], outer[(a, c)])]


def holds_spread(tables, row):
    ands, ors, _ = tables
    return is_spread(ands, ors, row) and is_spread(ors, ands, row)


def tells(table, a, b):
    """Whether a table gives the answer of all ways to fill its arguments, if that is one answer."""
    answer = agreed([table[filling] for filling in fillings((a, b))])
    return answer == "u" or table[(a, b)] == answer


def holds_told(tables, row):
    ands, ors, _ = tables
    a, b = row
    return tells(ands, a, b) and tells(ors, a, b)


def holds_turn(tables, row):
    nots = tables[2]
    return nots[nots[row[0]]] == row[0]


def holds_units(tables, row):
    ands, ors, _ = tables
    a = row[0]
    return ands[(a, "t")] == a and ands[("t", a)] == a and ors[(a, "f")] == a and ors[("f", a)] == a


def holds_zeros(tables, row):
    ands, ors, _ = tables
    a = row[0]
    is_false = ands[(a, "f")] == "f" and ands[("f", a)] == "f"
    is_true = ors[(a, "t")] == "t" and ors[("t", a)] == "t"
    return is_false and is_true


# How many answers a promise is about.
LENGTHS = {
    "absorb": 2,
    "apart": 1,
    "growing": 2,
    "middle": 1,
    "mirror": 2,
    "open": 2,
    "order": 2,
    "parts": 3,
    "repeat": 1,
    "spread": 3,
    "told": 2,
    "turn": 1,
    "units": 1,
    "zeros": 1,
}

# Whether a logic, given by its tables of and, or, not, keeps a promise at a row of so many answers.
HOLDS = {
    "absorb": holds_absorb,
    "apart": holds_apart,
    "growing": holds_growing,
    "middle": holds_middle,
    "mirror": holds_mirror,
    "open": holds_open,
    "order": holds_order,
    "parts": holds_parts,
    "repeat": holds_repeat,
    "spread": holds_spread,
    "told": holds_told,
    "turn": holds_turn,
    "units": holds_units,
    "zeros": holds_zeros,
}


def check_promise(value):
    """Raise BadPromise if a value is not the name of a promise."""
    if not isinstance(value, str) or value not in HOLDS:
        raise BadPromise("no promise has this name")


def rows_of(promise):
    """All rows that a promise is about, ascending."""
    return all_rows(LENGTHS[promise])


def holds_at(tables, promise, row):
    """Whether a promise holds at a row by tables of and, or, not."""
    holds = HOLDS[promise]
    return holds(tables, row)


def least_break(logic, promise):
    """The least row at which a logic breaks a promise, None if there is none."""
    tables = tables_of(logic)
    for row in rows_of(promise):
        if not holds_at(tables, promise, row):
            return row
    return None


def promises():
    """The names of the promises, ascending."""
    return tuple(sorted(HOLDS))


def keeps(logic, promise):
    """Whether a logic keeps a promise."""
    return counterexample(logic, promise) is None


def counterexample(logic, promise):
    """The least tuple of answers by which a logic breaks a promise, None if it keeps the promise."""
    check_logic(logic)
    check_promise(promise)
    return least_break(logic, promise)


def profile(logic):
    """The promises that a logic keeps, ascending."""
    check_logic(logic)
    return tuple([promise for promise in promises() if least_break(logic, promise) is None])
