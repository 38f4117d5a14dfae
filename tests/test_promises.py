"""Points 5 and 6: the fourteen promises, and which of them a logic keeps."""

import unittest

from tests.reckoning import PARTS, breaking_rows, broken_parts, reckoned_counterexample
from tests.values import GREATEST, TOLD, sample
from unknowntables.errors import BadLogic, BadPromise
from unknowntables.promises import counterexample, keeps, profile, promises

NAMES = (
    "absorb", "apart", "growing", "middle", "mirror", "open", "order", "parts",
    "repeat", "spread", "told", "turn", "units", "zeros",
)

# For each part of a promise: a logic that breaks just this part, and the least tuple that breaks it.
BREAKING = {
    "absorb": {"and": ("ffufuuuttuu", "ut"), "or": ("ffuuuutttuu", "uf")},
    "apart": {"not behind": ("fffuuuuttut", "u"), "not ahead": ("ffufuuuttut", "u")},
    "growing": {"and": ("fffuuuuttuu", "tu"), "or": ("ffuuufuttuu", "fu"), "not": ("ffuuuuuttuf", "uf")},
    "middle": {"not behind": ("ffuuututtuf", "u"), "not ahead": ("ffuuuutttuf", "u")},
    "mirror": {"and": ("fffuuuuttuf", "tu"), "or": ("ffuuufuttuf", "fu")},
    "open": {"and": ("ffuuuuuuuuu", "fu"), "or": ("uuuuuuuttuu", "tu"), "not": ("uuuuuuuuuuf", "uf")},
    "order": {"and": ("fffuuuuttuu", "tu"), "or": ("ffuuufuttuu", "fu")},
    "parts": {"and": ("fffuuuuttuu", "utu"), "or": ("ffuuututtuu", "ufu")},
    "repeat": {"and": ("ffuufuuttuu", "u"), "or": ("ffuuuuuttfu", "u")},
    "spread": {"and": ("ffuuufuttuu", "uft"), "or": ("fffuuuuttuu", "utf")},
    "told": {"and": ("ftuuuuuttuu", "uf"), "or": ("ffuuuuuftuu", "tu")},
    "turn": {"not": ("ffuuuuuttuf", "u")},
    "units": {
        "and t": ("ffufuuuttuu", "u"), "t and": ("fffuuuuttuu", "u"),
        "or f": ("ffuuuufttuu", "u"), "f or": ("ffuuufuttuu", "u"),
    },
    "zeros": {
        "and f": ("ftuuuuuttuu", "u"), "f and": ("tfuuuuuttuu", "u"),
        "or t": ("ffuuuuutfuu", "u"), "t or": ("ffuuuuuftuu", "u"),
    },
}

# For each promise, logics that keep it.
KEEPING = {
    "absorb": ("ffuuuuuttuu", "ffuuuuuttuf", "fuuuuuutuuu"),
    "apart": ("fffffffttft", "fffffffttfu", "ffttttttttf"),
    "growing": ("ffuuuuuttuu", "uuuuuuuuuuu", "fuuuuuutuuu", "uuuuuuuttuu"),
    "middle": ("fffffffttft", "ffttttttttu", "ffttttttttf"),
    "mirror": ("ffuuuuuttuu", "uuuuuuuuuuu", "fffffffttft", "fuuuuuutuuu"),
    "open": ("uuuuuuuuuuu",),
    "order": ("ffuuuuuttuu", "uuuuuuuuuuu", "ttfftttfffu"),
    "parts": ("ffuuuuuttuu", "fuuuuuutuuu", "fffffffttft"),
    "repeat": ("ffuuuuuttuu", "tftfuftftuf", "uuuuuuuuuuu"),
    "spread": ("ffuuuuuttuu", "uuuuuuuuuuu", "fffffffttfu"),
    "told": ("ffuuuuuttuu", "fftftfuttff", "fffffffttft"),
    "turn": ("ffuuuuuttuu", "ttttttttttu", "fffffffttfu"),
    "units": ("ffuuuuuttuu", "ttuufuuttuf", "uuuuuuuuuuu"),
    "zeros": ("ffuuuuuttuu", "fftftfuttff", "ffttttttttf"),
}


class Names(unittest.TestCase):
    def test_promises(self):
        self.assertEqual(promises(), NAMES)
        self.assertIs(type(promises()), tuple)
        self.assertEqual(tuple(sorted(promises())), promises())

    def test_bad_promises(self):
        strong = tuple(TOLD["strong"])
        for value in ("", "Absorb", "absorb ", "strong", "grow", "not", None, True, 0, 14, ["turn"], ("turn",),
                      {"turn": "turn"}, NAMES, (("turn",),)):
            for call in (keeps, counterexample):
                with self.subTest(call=call.__name__, value=value):
                    self.assertRaises(BadPromise, call, strong, value)

    def test_bad_logic_ahead_of_bad_promise(self):
        for call in (keeps, counterexample):
            for promise in ("x", None, [], "turn"):
                with self.assertRaises(BadLogic) as caught:
                    call(("f",) * 4 + ("x",) + ("f",) * 6, promise)
                self.assertEqual(caught.exception.index, 4)
                with self.assertRaises(BadLogic) as caught:
                    call("ffuuuuuttuu", promise)
                self.assertIsNone(caught.exception.index)


class EachPart(unittest.TestCase):
    def test_all_parts_are_here(self):
        self.assertEqual(tuple(BREAKING), NAMES)
        self.assertEqual(tuple(KEEPING), NAMES)
        for promise, (_, parts) in PARTS.items():
            self.assertEqual(sorted(BREAKING[promise]), sorted(parts))

    def test_breaking(self):
        for promise, parts in BREAKING.items():
            for part, (text, row) in parts.items():
                with self.subTest(promise=promise, part=part):
                    self.assertEqual(broken_parts(text, promise), [part])
                    self.assertIs(keeps(tuple(text), promise), False)
                    self.assertEqual(counterexample(tuple(text), promise), tuple(row))
                    self.assertNotIn(promise, profile(tuple(text)))

    def test_keeping(self):
        for promise, texts in KEEPING.items():
            for text in texts:
                with self.subTest(promise=promise, text=text):
                    self.assertIs(keeps(tuple(text), promise), True)
                    self.assertIsNone(counterexample(tuple(text), promise))
                    self.assertIn(promise, profile(tuple(text)))


class PairsThatBreak(unittest.TestCase):
    """What point 6 says of growing, open and told: a pair breaks by and, by or, or by not of its first answer."""

    def test_not_of_the_second_answer_does_not_count(self):
        for text in ("uuuuuuuuuuf", "uuuuuuuuuut"):
            self.assertEqual(counterexample(tuple(text), "open"), ("u", "f"))
            self.assertEqual(counterexample(tuple(text), "growing"), ("u", "f"))

    def test_told_asks_nothing_of_not(self):
        for answer in "ftu":
            self.assertIs(keeps(tuple("ffuuuuuttu" + answer), "told"), True)

    def test_each_way_to_replace(self):
        # u and u is f: it would have to stay f for all four ways, and t and t is not.
        self.assertEqual(counterexample(tuple("fffffuuttuu"), "growing"), ("t", "u"))
        self.assertEqual(counterexample(tuple("ffuufuuttuu"), "growing"), ("u", "u"))
        self.assertEqual(counterexample(tuple("ffuuuuutttu"), "growing"), ("u", "u"))


class AgainstTheReckoning(unittest.TestCase):
    @classmethod
    def setUpClass(cls):
        cls.texts = sample()
        cls.expected = {
            text: {promise: reckoned_counterexample(text, promise) for promise in NAMES} for text in cls.texts
        }

    def kept(self, text):
        return tuple(promise for promise in NAMES if self.expected[text][promise] is None)

    def test_counterexamples_and_keeps(self):
        for text in self.texts:
            logic = tuple(text)
            for promise, expected in self.expected[text].items():
                self.assertEqual(counterexample(logic, promise), expected, (text, promise))
                self.assertIs(keeps(logic, promise), expected is None, (text, promise))

    def test_profiles(self):
        for text in self.texts:
            found = profile(tuple(text))
            self.assertIs(type(found), tuple)
            self.assertEqual(found, self.kept(text), text)

    def test_the_sample_has_logics_of_all_kinds(self):
        self.assertGreater(len(self.texts), 5000)
        self.assertGreater(len({self.kept(text) for text in self.texts}), 200)
        for promise in NAMES:
            self.assertTrue(any(self.expected[text][promise] is None for text in self.texts), promise)
            for part in PARTS[promise][1]:
                alone = any(broken_parts(text, promise) == [part] for text in self.texts)
                self.assertTrue(alone, (promise, part))

    def test_lengths(self):
        for text in self.texts[::100]:
            for promise in NAMES:
                found = counterexample(tuple(text), promise)
                if found is not None:
                    self.assertIs(type(found), tuple)
                    self.assertEqual(len(found), PARTS[promise][0])

    def test_least_of_several(self):
        # Rows that break stand in several places: the first of them, as tuples of strings are ordered.
        several = 0
        for text in self.texts[::20]:
            for promise, (_, parts) in PARTS.items():
                rows = set().union(*[breaking_rows(text, promise, part) for part in parts])
                if len(rows) > 1:
                    several += 1
                    self.assertEqual(counterexample(tuple(text), promise), sorted(rows)[0])
        self.assertGreater(several, 1000)


class Profiles(unittest.TestCase):
    def test_told_logics(self):
        expected = {
            "as false": ("apart", "middle", "mirror", "order", "parts", "spread", "told", "zeros"),
            "as true": ("apart", "middle", "mirror", "order", "parts", "spread", "told", "zeros"),
            "lazy": ("absorb", "growing", "mirror", "parts", "repeat", "spread", "turn", "units"),
            "strong": ("absorb", "growing", "mirror", "order", "parts", "repeat", "spread", "told", "turn",
                       "units", "zeros"),
            "weak": ("growing", "mirror", "open", "order", "parts", "repeat", "spread", "turn", "units"),
        }
        for name, promised in expected.items():
            with self.subTest(name=name):
                self.assertEqual(profile(tuple(TOLD[name])), promised)

    def test_no_promise_at_all(self):
        self.assertEqual(profile(tuple("tfuftfftuff")), ())

    def test_greatest_sets(self):
        # Point 7 lists nine sets; these twelve logics are all that keep one of them.
        self.assertEqual(len({profile(tuple(text)) for text in GREATEST}), 9)

    def test_bad_logic(self):
        with self.assertRaises(BadLogic) as caught:
            profile(tuple("ffuuuuuttux"))
        self.assertEqual(caught.exception.index, 10)


class Examples(unittest.TestCase):
    def test_as_written(self):
        strong, lazy = tuple("ffuuuuuttuu"), tuple("fuuuuuutuuu")
        self.assertEqual(
            [len(promises()), profile(strong)],
            [14, ("absorb", "growing", "mirror", "order", "parts", "repeat", "spread", "told", "turn", "units",
                  "zeros")],
        )
        self.assertEqual(
            [keeps(lazy, "parts"), counterexample(lazy, "order"), counterexample(strong, "middle"),
             counterexample(strong, "turn")],
            [True, ("f", "u"), ("u",), None],
        )
        with self.assertRaises(BadLogic):
            keeps(strong[1:], "parts")


if __name__ == "__main__":
    unittest.main()
