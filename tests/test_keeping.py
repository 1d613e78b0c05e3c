"""Promises 81 and 82 and the limits of 84: rules by which sections are kept, steps, keepers, blockers."""

import itertools
import random
import unittest

from linklines.keeping import Rules, blockers, keepers, kept, rules_of, steps
from linklines.sheets import Sheet
from tests.tools import any_objects, as_lists, call_alike, raised, spoil

RULES = [(("a", "b"), "c"), ((), "d"), (("c", "d"), "e"), (("b",), "a")]


def example():
    return Rules(["e", "d", "c", "b", "a"], RULES)


def random_rules(dice, many=7, most=12):
    names = "abcdefgh"[:many]
    return Rules(list(names), [(dice.sample(names, dice.choice([1, 1, 1, 2, 2, 3]) if dice.random() < 0.97 else 0),
                                dice.choice(names)) for _ in range(dice.randint(0, most))])


def plain_kept(rules, roots):
    found = set(roots)
    for _ in rules.sections():
        for lot, section in rules.rules():
            if found.issuperset(lot):
                found.add(section)
    return found


def all_lots(names):
    return [lot for many in range(len(names) + 1) for lot in itertools.combinations(sorted(names), many)]


def least(lots):
    return [lot for lot in lots if not any(set(other) < set(lot) for other in lots)]


class TestRules(unittest.TestCase):
    def test_what_is_told(self):
        parts = as_lists(RULES)
        sections = ["e", "d", "c", "b", "a"]
        rules = Rules(sections, parts)
        self.assertEqual(rules.sections(), ["e", "d", "c", "b", "a"])
        self.assertEqual(rules.rules(), RULES)
        parts[0][0].append("d")
        parts.pop()
        sections.pop()
        spoil(rules.rules())
        spoil(rules.sections())
        self.assertEqual(rules, Rules(sections=("e", "d", "c", "b", "a"), rules=tuple(RULES)))
        for other in [Rules(["a", "b", "c", "d", "e"], RULES), Rules(["e", "d", "c", "b", "a"], RULES[::-1]), *any_objects()]:
            self.assertFalse(rules == other)

    def test_rules_of_sheets(self):
        sheet = Sheet({"b": [1, ("a", 0), ("b", 3), ("a", 2)], "a": [("c", 0)], "c": []})
        self.assertEqual(call_alike(self, rules_of, sheet), Rules(["a", "b", "c"], [(["a"], "c"), (["b"], "a"), (["b"], "b")]))
        self.assertEqual(rules_of(sheet=Sheet({})), Rules([], []))

    def test_bad_words(self):
        for thing in any_objects():
            if not isinstance(thing, (list, tuple)):
                self.assertEqual(raised(Rules, thing, None), ("BadWords", 0))
            self.assertEqual(raised(Rules, ["a", thing, 0], None), ("BadWords", 1))
        self.assertEqual(raised(Rules, ["a", "b", "a"], None), ("BadWords", 2))

    def test_bad_rules(self):
        good = (("a",), "b")
        for thing in any_objects():
            if not isinstance(thing, (list, tuple)):
                self.assertEqual(raised(Rules, ["a", "b"], thing), ("BadRule", 0))
                self.assertEqual(raised(Rules, ["a", "b"], [good, (thing, "b"), 0]), ("BadRule", 1))
            self.assertEqual(raised(Rules, ["a", "b"], [good, thing, 0]), ("BadRule", 1))
            self.assertEqual(raised(Rules, ["a", "b"], [good, ((), thing), 0]), ("BadRule", 1))
            self.assertEqual(raised(Rules, ["a", "b"], [good, (["a", thing], "b"), 0]), ("BadRule", 1))
        for thing in (("a", "b"), (("a", "a"), "b"), (("c",), "b"), (("a",), "c"), (("a",), "b", "b")):
            self.assertEqual(raised(Rules, ["a", "b"], [good, good, thing]), ("BadRule", 2))

    def test_bad_roots_and_no_body(self):
        rules = example()
        for function, more in ((kept, ()), (steps, (None,)), (keepers, (None,)), (blockers, (None,))):
            for thing in any_objects():
                if not isinstance(thing, (list, tuple)):
                    self.assertEqual(raised(function, rules, thing, *more), ("BadRoots", 0))
                self.assertEqual(raised(function, rules, ["b", thing, 0], *more), ("BadRoots", 1))
            self.assertEqual(raised(function, rules, ["b", "a", "b"], *more), ("BadRoots", 2))
            self.assertEqual(raised(function, rules, ["f"], *more), ("BadRoots", 0))
        for function in (steps, keepers, blockers):
            for thing in [*any_objects(), "f"]:
                self.assertEqual(raised(function, rules, ["b"], thing), ("NoBody", thing))


class TestKept(unittest.TestCase):
    def test_kept_ones_and_steps(self):
        long = missing = 0
        for seed in range(250):
            dice = random.Random(seed)
            rules = random_rules(dice)
            roots = dice.sample(rules.sections(), dice.randint(0, 3))
            found = plain_kept(rules, roots)
            self.assertEqual(kept(rules, roots), sorted(found))
            for section in rules.sections():
                told = steps(rules, roots, section)
                self.assertIs(told is None, section not in found)
                missing += told is None
                if told is not None:
                    self.assertIs(leads(rules, roots, section, told), True)
                    self.assertIs(told == [], section in roots)
                    for at in range(len(told)):
                        self.assertIs(leads(rules, roots, section, told[:at] + told[at + 1:]), False)
                    long += len(told) > 2
        self.assertGreater(min(long, missing), 15)

    def test_calls(self):
        rules = example()
        self.assertEqual(call_alike(self, kept, rules, ["b"]), ["a", "b", "c", "d", "e"])
        self.assertEqual(call_alike(self, steps, rules, ["b"], "c"), [3, 0])
        self.assertEqual(call_alike(self, steps, rules, ["b"], "b"), [])
        self.assertEqual(call_alike(self, steps, rules, [], "d"), [1])
        self.assertIsNone(call_alike(self, steps, rules, ["c"], "a"))
        self.assertEqual(sorted(steps(rules=rules, roots=("b",), section="e")), [0, 1, 2, 3])
        self.assertEqual(kept(rules=rules, roots=()), ["d"])


def leads(rules, roots, section, numbers):
    """Whether each rule can be used behind those ahead, and the last one tells the section."""
    found = set(roots)
    for number in numbers:
        lot, told = rules.rules()[number]
        if not found.issuperset(lot):
            return False
        found.add(told)
    return section in roots if not numbers else rules.rules()[numbers[-1]][1] == section


class TestLeastLots(unittest.TestCase):
    def test_among_all_lots(self):
        several = 0
        for seed in range(300):
            dice = random.Random(seed)
            rules = random_rules(dice)
            names = dice.sample(rules.sections(), dice.randint(0, 5))
            section = dice.choice(rules.sections())
            keeping = least([lot for lot in all_lots(names) if section in plain_kept(rules, lot)])
            blocking = least([lot for lot in all_lots(names) if section not in plain_kept(rules, set(names) - set(lot))])
            self.assertEqual(keepers(rules, names, section), keeping)
            self.assertEqual(blockers(rules, names, section), blocking)
            self.assertTrue(all(set(lot) & set(other) for lot in keeping for other in blocking))
            for lot in all_lots(names):
                does_keep = section in plain_kept(rules, lot)
                self.assertIs(does_keep, any(set(lot) >= set(other) for other in keeping))
                self.assertIs(does_keep, all(set(lot) & set(other) for other in blocking))
            several += len(keeping) > 1 or len(blocking) > 1
        self.assertGreater(several, 10)

    def test_always_and_never(self):
        rules = example()
        self.assertEqual(call_alike(self, keepers, rules, ["b", "a"], "d"), [()])
        self.assertEqual(call_alike(self, blockers, rules, ["b", "a"], "d"), [])
        self.assertEqual(keepers(rules=rules, names=["d"], section="b"), [])
        self.assertEqual(blockers(rules=rules, names=["d"], section="b"), [()])
        self.assertEqual(call_alike(self, keepers, rules, ["e", "c", "b", "a"], "e"), [("b",), ("c",), ("e",)])
        self.assertEqual(call_alike(self, blockers, rules, ["e", "c", "b", "a"], "e"), [("b", "c", "e")])
        two = Rules(["a", "b", "c", "d"], [(["a", "b"], "d"), (["c"], "d")])
        self.assertEqual(call_alike(self, keepers, two, ["c", "b", "a"], "d"), [("c",), ("a", "b")])
        self.assertEqual(call_alike(self, blockers, two, ["c", "b", "a"], "d"), [("a", "c"), ("b", "c")])

    def test_at_the_limits(self):
        names = [one + other for one in "abcd" for other in "abcdefghij"]
        dice = random.Random(1)
        rules = Rules(names, [(dice.sample(names[:20], 3), names[20 + at % 20]) for at in range(40)])
        self.assertTrue(all(len(lot) <= 8 for lot in keepers(rules, names[:8], names[25])))
        chain = Rules(names, [((one,), other) for one, other in zip(names, names[1:])][::-1])
        self.assertEqual(kept(chain, names[:1]), names)
        self.assertEqual(len(steps(chain, names[:1], names[-1])), 39)
        self.assertEqual(keepers(chain, names[:8], names[-1]), [(name,) for name in names[:8]])


if __name__ == "__main__":
    unittest.main()
