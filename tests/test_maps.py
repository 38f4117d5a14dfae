"""Points 7 to 9: sets of promises, what clashes, how many logics there are."""

import unittest
from itertools import combinations

from tests.census import NAMES, bits_of, census, counted
from tests.values import NOTHINGS, TOLD
from unknowntables.errors import BadPromises
from unknowntables.maps import can_add, can_hold, clashes, count_logics, greatest_sets, least_clashes, least_logic
from unknowntables.promises import counterexample, keeps, profile, promises

# The nine greatest sets in the words of point 7.
NINE = (
    "growing open mirror order parts repeat spread turn units",
    "told zeros absorb growing mirror order parts repeat spread turn units",
    "told zeros absorb mirror order parts repeat spread units apart",
    "told zeros absorb mirror order parts repeat spread units middle",
    "told zeros apart middle mirror order parts repeat spread",
    "told zeros apart middle mirror order parts turn units",
    "told zeros apart middle mirror parts spread turn",
    "told zeros order parts spread turn apart",
    "told zeros order parts spread turn middle",
)

# The nineteen least clashes in the words of point 8.
NINETEEN = (
    "absorb open", "apart growing", "apart open", "growing middle", "middle open", "open told", "open zeros",
    "absorb apart middle",
    "absorb turn apart", "absorb turn middle",
    "repeat turn apart", "repeat turn middle",
    "apart middle units repeat", "apart middle units spread",
    "spread turn units apart", "spread turn units middle",
    "apart middle order spread turn",
    "mirror order spread turn apart", "mirror order spread turn middle",
)

OF_WANTED = (can_hold, can_add, clashes, count_logics, least_logic)
ALL_SETS = [wanted for many in range(15) for wanted in combinations(NAMES, many)]

# What is looked through for counts and least logics: all small sets, and some of all others.
SOME_SETS = [wanted for place, wanted in enumerate(ALL_SETS) if len(wanted) <= 2 or place % 19 == 0]


def as_tuple(words):
    return tuple(sorted(words.split()))


def is_counted(wanted):
    """Whether some logic keeps promises by the census."""
    bits = bits_of(wanted)
    return any(bits & kept == bits for kept in census())


class BadSets(unittest.TestCase):
    def assert_bad(self, wanted):
        for call in OF_WANTED:
            with self.subTest(call=call.__name__, wanted=wanted):
                self.assertRaises(BadPromises, call, wanted)

    def test_no_tuple(self):
        for wanted in (["growing", "told"], [], {}, {"growing": 1}, "growing", "", None, True, False, 0, 1, 1 << 14):
            self.assert_bad(wanted)

    def test_an_item_that_is_no_promise(self):
        for item in NOTHINGS:
            self.assert_bad((item,))
            self.assert_bad(("absorb", item))
            self.assert_bad((item, "zeros"))
            self.assert_bad(("growing", item, "told"))

    def test_an_item_that_stands_where_it_would_be_ascending(self):
        self.assert_bad(("absorb", "always", "apart"))
        self.assert_bad(("a",))
        self.assert_bad(("zeros", "zeroz"))

    def test_not_ascending(self):
        self.assert_bad(("told", "growing"))
        self.assert_bad(NAMES[::-1])
        self.assert_bad(NAMES[1:] + NAMES[:1])
        for one, other in combinations(NAMES, 2):
            self.assertRaises(BadPromises, can_hold, (other, one))

    def test_not_different(self):
        self.assert_bad(("turn", "turn"))
        self.assert_bad(("absorb", "turn", "turn", "units"))
        self.assert_bad(NAMES + NAMES[-1:])

    def test_all_ascending_sets_are_good(self):
        for wanted in ALL_SETS:
            can_hold(wanted)
        self.assertEqual(len(ALL_SETS), 16384)


class GreatestSets(unittest.TestCase):
    def test_the_nine(self):
        self.assertEqual(greatest_sets(), tuple(sorted(as_tuple(words) for words in NINE)))
        self.assertIs(type(greatest_sets()), tuple)
        self.assertEqual({type(kept) for kept in greatest_sets()}, {tuple})

    def test_just_these_are_greatest_by_the_census(self):
        greatest = {kept for kept in census() if not any(kept & other == kept != other for other in census())}
        self.assertEqual({bits_of(kept) for kept in greatest_sets()}, greatest)
        self.assertEqual(len(greatest_sets()), 9)

    def test_nothing_can_be_added(self):
        for kept in greatest_sets():
            self.assertIs(can_hold(kept), True)
            self.assertEqual(can_add(kept), ())
            self.assertEqual(profile(least_logic(kept)), kept)


class CanHold(unittest.TestCase):
    def test_all_sets(self):
        for wanted in ALL_SETS:
            self.assertIs(can_hold(wanted), is_counted(wanted), wanted)

    def test_told_and_growing(self):
        self.assertIs(can_hold(("growing", "told")), True)
        self.assertIs(can_hold(("growing", "middle")), False)

    def test_edges(self):
        self.assertIs(can_hold(()), True)
        self.assertIs(can_hold(NAMES), False)
        for name in NAMES:
            self.assertIs(can_hold((name,)), True)


class CanAdd(unittest.TestCase):
    def test_all_sets(self):
        kept_by_some = [set(name for name in NAMES if kept & bits_of((name,))) for kept in census()]
        greatest = [kept for kept in kept_by_some if not any(kept < other for other in kept_by_some)]
        for wanted in ALL_SETS:
            around = [kept for kept in greatest if set(wanted) <= kept]
            self.assertEqual(can_add(wanted), tuple(sorted(set().union(*around) - set(wanted))), wanted)

    def test_edges(self):
        self.assertEqual(can_add(()), NAMES)
        self.assertEqual(can_add(("open",)), tuple("growing mirror order parts repeat spread turn units".split()))
        self.assertEqual(can_add(("apart", "growing")), ())
        self.assertEqual(can_add(NAMES), ())
        self.assertIs(type(can_add(("apart", "growing"))), tuple)


class LeastClashes(unittest.TestCase):
    def test_the_nineteen(self):
        told = sorted((as_tuple(words) for words in NINETEEN), key=lambda clash: (len(clash), clash))
        self.assertEqual(least_clashes(), tuple(told))
        self.assertEqual(len(least_clashes()), 19)

    def test_just_these_are_least_by_the_census(self):
        kept = {wanted for wanted in ALL_SETS if is_counted(wanted)}
        least = [
            wanted for wanted in ALL_SETS
            if wanted not in kept and all(part in kept for part in combinations(wanted, len(wanted) - 1))
        ]
        self.assertEqual(least_clashes(), tuple(least))

    def test_each_part_of_one_is_kept(self):
        for clash in least_clashes():
            self.assertIs(can_hold(clash), False)
            for part in combinations(clash, len(clash) - 1):
                self.assertIs(can_hold(part), True)
                self.assertGreater(count_logics(part), 0)

    def test_clashes_of_all_sets(self):
        told = [as_tuple(words) for words in NINETEEN]
        told.sort(key=lambda clash: (len(clash), clash))
        for wanted in ALL_SETS:
            found = clashes(wanted)
            self.assertEqual(found, tuple(clash for clash in told if set(clash) <= set(wanted)), wanted)
            self.assertIs(found == (), can_hold(wanted), wanted)

    def test_edges(self):
        self.assertEqual(clashes(()), ())
        self.assertEqual(clashes(NAMES), least_clashes())
        self.assertEqual(clashes(("growing", "told")), ())
        self.assertEqual(clashes(("absorb", "apart", "middle", "turn")), (
            ("absorb", "apart", "middle"), ("absorb", "apart", "turn"), ("absorb", "middle", "turn")))


class CountsAndLeast(unittest.TestCase):
    def test_some_sets(self):
        kept = 0
        for wanted in SOME_SETS:
            many, least = counted(wanted)
            kept += many > 0
            self.assertEqual(count_logics(wanted), many, wanted)
            found = least_logic(wanted)
            self.assertEqual(found, None if least is None else tuple(least), wanted)
            if found is not None:
                self.assertIs(type(found), tuple)
                self.assertEqual(set(wanted) - set(profile(found)), set())
        self.assertGreater(kept, 200)

    def test_just_strong_keeps_growing_and_told(self):
        self.assertEqual(count_logics(("growing", "told")), 1)
        self.assertEqual(least_logic(("growing", "told")), tuple(TOLD["strong"]))

    def test_just_weak_keeps_open(self):
        self.assertEqual(count_logics(("open",)), 1)
        self.assertEqual(least_logic(("open",)), tuple(TOLD["weak"]))

    def test_edges(self):
        self.assertEqual(count_logics(()), 177147)
        self.assertEqual(least_logic(()), ("f",) * 11)
        self.assertEqual(count_logics(NAMES), 0)
        self.assertIsNone(least_logic(NAMES))
        for clash in least_clashes():
            self.assertEqual(count_logics(clash), 0)
            self.assertIsNone(least_logic(clash))

    def test_single_promises(self):
        told = {name: counted((name,)) for name in NAMES}
        for name in NAMES:
            self.assertEqual((count_logics((name,)), "".join(least_logic((name,)))), told[name])

    def test_no_logic_below_the_least_keeps_it(self):
        # By keeps and counterexample themselves: all logics up to the least, where that is not far.
        for name in ("turn", "repeat", "absorb", "order", "spread"):
            least = "".join(least_logic((name,)))
            place = int(least.translate({ord("f"): "0", ord("t"): "1", ord("u"): "2"}), 3)
            for below in range(min(place, 500)):
                logic = tuple("ftu"[below // 3 ** power % 3] for power in range(10, -1, -1))
                self.assertIs(keeps(logic, name), False)
            self.assertIsNone(counterexample(tuple(least), name))


class Examples(unittest.TestCase):
    def test_as_written(self):
        self.assertEqual(
            [can_hold(("growing", "middle")), clashes(("apart", "middle", "open")), len(least_clashes()),
             len(greatest_sets()), can_add(("growing", "told"))],
            [False, (("apart", "open"), ("middle", "open")), 19, 9,
             ("absorb", "mirror", "order", "parts", "repeat", "spread", "turn", "units", "zeros")],
        )
        self.assertEqual(
            [count_logics(("growing", "told")), count_logics(("turn",)), count_logics(()),
             count_logics(("absorb", "open"))],
            [1, 59049, 177147, 0],
        )
        self.assertEqual(
            ["".join(least_logic(("open",))), least_logic(("absorb", "open"))], ["uuuuuuuuuuu", None])
        with self.assertRaises(BadPromises):
            can_hold(("told", "growing"))

    def test_names(self):
        self.assertEqual(promises(), NAMES)


if __name__ == "__main__":
    unittest.main()
