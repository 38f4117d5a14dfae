"""Values that the tests share: logics, and values that are none of what is asked."""

from itertools import combinations, product

TOLD = {
    "as false": "fffffffttft",
    "as true": "ffttttttttf",
    "lazy": "fuuuuuutuuu",
    "strong": "ffuuuuuttuu",
    "weak": "uuuuuuuuuuu",
}

# The logics that keep one of the nine greatest sets of promises: no other logics keep so many.
GREATEST = (
    "fffffffttfu", "fffffffttuu", "ffffuffttut", "ffttttttttu", "ffttutttttu", "ffttuttttuf",
    "ffuffuttttu", "ffuufuutttu", "ffuuuuuttuf", "ffuuuuuttut", "ffuuuuuttuu", "uuuuuuuuuuu",
)

# Nothing of this is an answer, a logic, the name of a told logic or a promise.
NOTHINGS = (
    True, False, None, 0, 1, -1, 10 ** 5000, "", " ", "ft", "tu", "F", "T", "U", "x", "f ", " u", "\n", "not", "or",
    "Strong", "strong ", "asfalse", "as  true", "as", "fold", "Absorb", "turn ", "opens", "unit", "growing,told",
    [], ["f"], ["f", "t", "u"], ["strong"], ["turn"], {}, {"f": "t"}, {"strong": 1, "turn": 2}, {1: {2: [3]}},
    (), ("f",), ("u", "u"), ("strong",), ("turn",), (("f",), ("t", ("u", ())),), (1, None, True), ([], {}),
)


def changed(text, places, answers):
    items = list(text)
    for place, answer in zip(places, answers):
        items[place] = answer
    return "".join(items)


def near(text, most):
    """A logic and all that tell otherwise at so many places at most."""
    found = {text}
    for many in range(1, most + 1):
        for places in combinations(range(11), many):
            for answers in product("ftu", repeat=many):
                found.add(changed(text, places, answers))
    return found


def mirrored(ands):
    """The logic with not u is u that keeps mirror and has these answers of and."""
    turned = {"f": "t", "t": "f", "u": "u"}
    fu, uf, tu, ut, uu = [turned[answer] for answer in ands]
    return "".join((*ands, tu, ut, fu, uf, uu, "u"))


def sample():
    """Some six thousand logics, as texts: all near the told ones, the rare ones, and some of everywhere."""
    everywhere = ["".join(items) for items in product("ftu", repeat=11)]
    found = set(everywhere[::41])
    found.update(GREATEST)
    for text in TOLD.values():
        found |= near(text, 2)
    for five in product("ftu", repeat=5):
        told = "".join(five)
        found.update((told + "uuttuu", "ffuuu" + told + "u", mirrored(five)))
    return sorted(found)
