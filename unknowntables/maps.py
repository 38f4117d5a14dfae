"""Sets of promises: which of them some logic keeps, how many logics do, which is the least (points 7 to 9)."""

from unknowntables.errors import BadPromises
from unknowntables.logics import ANSWERS, LENGTH, and_table, not_table, or_table
from unknowntables.promises import holds_at, promises, rows_of

# The sets of promises that some logic keeps, and none with a promise more.
GREATEST_SETS = (
    ("absorb", "apart", "mirror", "order", "parts", "repeat", "spread", "told", "units", "zeros"),
    ("absorb", "growing", "mirror", "order", "parts", "repeat", "spread", "told", "turn", "units", "zeros"),
    ("absorb", "middle", "mirror", "order", "parts", "repeat", "spread", "told", "units", "zeros"),
    ("apart", "middle", "mirror", "order", "parts", "repeat", "spread", "told", "zeros"),
    ("apart", "middle", "mirror", "order", "parts", "told", "turn", "units", "zeros"),
    ("apart", "middle", "mirror", "parts", "spread", "told", "turn", "zeros"),
    ("apart", "order", "parts", "spread", "told", "turn", "zeros"),
    ("growing", "mirror", "open", "order", "parts", "repeat", "spread", "turn", "units"),
    ("middle", "order", "parts", "spread", "told", "turn", "zeros"),
)

# The sets of promises that no logic keeps, though some logic keeps each part but the whole.
LEAST_CLASHES = (
    ("absorb", "open"),
    ("apart", "growing"),
    ("apart", "open"),
    ("growing", "middle"),
    ("middle", "open"),
    ("open", "told"),
    ("open", "zeros"),
    ("absorb", "apart", "middle"),
    ("absorb", "apart", "turn"),
    ("absorb", "middle", "turn"),
    ("apart", "repeat", "turn"),
    ("middle", "repeat", "turn"),
    ("apart", "middle", "repeat", "units"),
    ("apart", "middle", "spread", "units"),
    ("apart", "spread", "turn", "units"),
    ("middle", "spread", "turn", "units"),
    ("apart", "middle", "order", "spread", "turn"),
    ("apart", "mirror", "order", "spread", "turn"),
    ("middle", "mirror", "order", "spread", "turn"),
)


def check_promises(value):
    """Raise BadPromises if a value is no ascending tuple of different promises."""
    if not isinstance(value, tuple):
        raise BadPromises("wanted promises are a tuple")
    # Each item is looked at before the items are sorted, which not all values can be.
    known = promises()
    if not all([item in known for item in value]):
        raise BadPromises("an item is no promise")
    if list(value) != sorted(set(value)):
        raise BadPromises("the promises are not ascending, or not different")


def lies_in(part, whole):
    """Whether each promise of one set is in another."""
    return all([promise in whole for promise in part])


def is_kept(some):
    """Whether some logic keeps promises, given in any order."""
    return any([lies_in(some, kept) for kept in GREATEST_SETS])


def can_hold(wanted):
    """Whether some logic keeps all wanted promises."""
    check_promises(wanted)
    return is_kept(wanted)


def greatest_sets():
    """The sets of promises that some logic keeps, and none with a promise more, ascending."""
    return GREATEST_SETS


def can_add(wanted):
    """The further promises with each of which some logic keeps all wanted ones and it, ascending."""
    check_promises(wanted)
    further = [promise for promise in promises() if promise not in wanted]
    return tuple([promise for promise in further if is_kept((*wanted, promise))])


def least_clashes():
    """The sets of promises that clash and of which no smaller part does, the smaller ones first."""
    return LEAST_CLASHES


def clashes(wanted):
    """The least clashes that lie in wanted promises, in their order."""
    check_promises(wanted)
    return tuple([clash for clash in LEAST_CLASHES if lies_in(clash, wanted)])


def undecided(told, checks):
    """Those checks, each a promise and a row for it, that told answers do not decide; None if one fails."""
    # The answer of not stands first in told, as many promises ask for it, and for few of the others.
    tables = (and_table(told[1:6]), or_table(told[6:]), not_table(told[:1]))
    left = []
    for promise, row in checks:
        try:
            holds = holds_at(tables, promise, row)
        except KeyError:
            # The check asks for an answer that is not told yet.
            left.append((promise, row))
        else:
            if not holds:
                return None
    return left


def keeping(told, checks):
    """All ways to go on with told answers just until all checks hold, whatever the further answers are."""
    left = undecided(told, checks)
    if left is None:
        return []
    if not left:
        return [told]
    return [found for answer in ANSWERS for found in keeping((*told, answer), left)]


def beginnings(wanted):
    """The beginnings of all logics that keep wanted promises: each of them goes on with just one of these."""
    # A search would find this, too, but only after going through most of what can be told.
    if not is_kept(wanted):
        return []
    return keeping((), [(promise, row) for promise in wanted for row in rows_of(promise)])


def ways(length):
    """How many tuples of so many answers there are."""
    many = 1
    for _ in range(length):
        many = many * len(ANSWERS)
    return many


def least_from(told):
    """The least logic that goes on with told answers, of which that of not is the first."""
    full = told + ("f",) * (LENGTH - len(told))
    return full[1:] + full[:1]


def count_logics(wanted):
    """How many logics keep all wanted promises."""
    check_promises(wanted)
    return sum([ways(LENGTH - len(told)) for told in beginnings(wanted)])


def least_logic(wanted):
    """The least logic that keeps all wanted promises, None if there is none."""
    check_promises(wanted)
    return min([least_from(told) for told in beginnings(wanted)], default=None)
