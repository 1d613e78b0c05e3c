"""Promises 63 and 64: classes of files and names, who wins what first; the example of 68."""

import itertools
import random
import unittest

from linklines.scripts import Script
from linklines.winners import file_classes, first_untaken, first_won, name_classes
from tests.script_tools import SIGNS, example_68, is_plainly_matched, plain_taker, random_pattern
from tests.tools import any_objects, call_alike, raised

LETTERS = SIGNS[12:]


def words_of(signs, most):
    for many in range(1, most + 1):
        for row in itertools.product(sorted(signs), repeat=many):
            yield "".join(row)


def plain_classes(patterns, words):
    firsts = {}
    for word in words:
        lot = tuple(number for number, pattern in enumerate(patterns) if is_plainly_matched(pattern, word))
        firsts.setdefault(lot, word)
    return list(firsts.items())


def scripts_at_random(many, signs="ab", most=4):
    for seed in range(many):
        dice = random.Random(seed)
        yield Script([("x", random_pattern(dice, signs, 3), random_pattern(dice, signs, 3), "line")
                      for _ in range(dice.randint(1, most))])


def first_inputs(script, most):
    """For each rule, and None, the first input, among inputs of so many signs at most."""
    rules, firsts = script.rules(), {}
    # a sign that no pattern tells stands for all such: the first one
    files, names = list(words_of("abc", most - 1)), list(words_of(".ab", most - 1))
    pairs = sorted((len(file) + len(name), file, name) for file in files for name in names if len(file) + len(name) <= most)
    for _, file, name in pairs:
        firsts.setdefault(plain_taker(rules, file, name), (file, name))
    return firsts


class TestClasses(unittest.TestCase):
    def test_short_ones(self):
        words, names = list(words_of(LETTERS, 3)), list(words_of(SIGNS, 2))
        for script in scripts_at_random(12):
            for function, part, every, most in ((file_classes, 1, words, 3), (name_classes, 2, names, 2)):
                told = function(script)
                wanted = plain_classes([rule[part] for rule in script.rules()], every)
                self.assertEqual([pair for pair in told if len(pair[1]) <= most], wanted)

    def test_long_ones(self):
        # all words over the signs of the patterns, and one sign that stands for all others
        files, names = list(words_of("abc", 7)), list(words_of(".ab", 7))
        several = 0
        for script in scripts_at_random(25):
            for function, part, every in ((file_classes, 1, files), (name_classes, 2, names)):
                told = function(script)
                wanted = plain_classes([rule[part] for rule in script.rules()], every)
                self.assertEqual([pair for pair in told if len(pair[1]) <= 7], wanted)
                several += len(told) > 4
        self.assertGreater(several, 10)

    def test_the_greatest_lengths(self):
        script = Script([("x", "?" * 8, "?" * 10, "line"), ("x", "?" * 9, "*" + "?" * 9, "line")])
        self.assertEqual(call_alike(self, file_classes, script), [((), "a"), ((0,), "a" * 8)])
        self.assertEqual(call_alike(self, name_classes, script), [((), "."), ((1,), "." * 9), ((0, 1), "." * 10)])
        script = Script([("x", "aaaaaaaa*", "bbb*bbbbbb", "line"), ("x", "*a?aaaaaaa", "*", "line")])
        self.assertEqual(file_classes(script), [((), "a"), ((0,), "aaaaaaaa")])
        # what wants more signs than a name can have matches nothing
        wide = Script([("x", "[ab]?????????", "*", "line"), ("x", "*", "?", "line")])
        self.assertEqual(file_classes(wide), [((1,), "a")])
        self.assertIsNone(first_won(wide, 0))
        self.assertEqual(first_won(wide, 1), ("a", "."))

    def test_names_of_twelve_signs(self):
        script = Script([("x", "*", "ab*", "line"), ("x", "*", "*cdefg", "line"), ("x", "*", "??hijk*", "line"),
                         ("x", "*", "??????l*", "line")])
        self.assertIn(((0, 1, 2, 3), "abhijklcdefg"), name_classes(script))
        script = Script([("x", "*", "ab*", "line"), ("x", "*", "*cdefgh", "line"), ("x", "*", "??hijk*", "line"),
                         ("x", "*", "??????l*", "line")])
        self.assertNotIn((0, 1, 2, 3), [lot for lot, _ in name_classes(script)])

    def test_the_example(self):
        self.assertEqual(file_classes(example_68()), [((0, 2, 3, 4), "a"), ((0, 1, 2, 3, 4), "crta")])
        self.assertEqual(name_classes(example_68()), [((4,), "."), ((2, 4), ".d"), ((2, 3, 4), ".ro"), ((0, 1, 4), ".text"),
                                                      ((1, 4), ".text.")])


class TestWinners(unittest.TestCase):
    def test_among_short_inputs(self):
        seen = {"won": 0, "never": 0, "untaken": 0}
        for script in scripts_at_random(60):
            firsts = first_inputs(script, 6)
            for number in range(len(script.rules())):
                told = first_won(script, number)
                if told is None or len(told[0]) + len(told[1]) <= 6:
                    self.assertEqual(told, firsts.get(number))
                seen["never" if told is None else "won"] += 1
            told = first_untaken(script)
            if told is None or len(told[0]) + len(told[1]) <= 6:
                self.assertEqual(told, firsts.get(None))
            seen["untaken"] += told is not None
        self.assertGreater(min(seen.values()), 5, seen)

    def test_winning_is_seen_by_classes(self):
        for script in scripts_at_random(40, "abc", 5):
            files, names = [lot for lot, _ in file_classes(script)], [lot for lot, _ in name_classes(script)]
            shared = [set(one) & set(other) for one in files for other in names]
            for number in range(len(script.rules())):
                self.assertIs(first_won(script, number) is not None, any(min(lot, default=None) == number for lot in shared))
            self.assertIs(first_untaken(script) is not None, set() in shared)

    def test_fewest_signs_of_both_together_then_pairs(self):
        script = Script([("x", "ab", "a", "line"), ("x", "b", "aa", "line"), ("y", "ab", "?", "line"), ("y", "b", "??", "line")])
        self.assertEqual(first_won(script, 0), ("ab", "a"))
        self.assertEqual(first_won(script, 3), ("b", ".."))
        self.assertEqual(first_untaken(script), ("a", "."))
        # the file is looked at first, as strings compare, however long it is
        script = Script([("x", "c", "aa", "line"), ("x", "ab", "z", "line"), ("y", "*", "*", "line")])
        both = Script([("x", "[c]", "[d]", "line"), ("z", "bb", "a", "line"), ("z", "c", "aa", "line"), ("y", "*", "*", "line")])
        self.assertEqual(first_won(both, 1), ("bb", "a"))
        self.assertEqual(first_won(script, 0), ("c", "aa"))
        apart = Script([("q", "a", "*", "line"), ("q", "b", "?", "line"), ("q", "[cdefghijklmnopqrstuvwxyz]", "*", "line"),
                        ("w", "*", "*", "line")])
        # of three signs: ("aa", ".") and ("b", ".."), of which the first is the lesser pair
        self.assertEqual(first_won(apart, 3), ("aa", "."))

    def test_a_rule_that_two_ahead_cover_together(self):
        script = Script([("x", "a*", "*", "line"), ("x", "[bcdefghijklmnopqrstuvwxyz]*", "*", "line"), ("y", "?*", "*", "line")])
        self.assertIsNone(first_won(script, 2))
        for without in (0, 1):
            rules = script.rules()
            del rules[without]
            self.assertIsNotNone(first_won(Script(rules), 1))

    def test_the_example(self):
        script = example_68()
        self.assertEqual(call_alike(self, first_won, script, 1), ("crta", ".text."))
        self.assertIsNone(first_won(script, 3))
        self.assertEqual(first_won(script=script, number=4), ("a", "."))
        self.assertIsNone(call_alike(self, first_untaken, script))
        self.assertEqual(first_untaken(Script([("x", "a", "*", "line")])), ("b", "."))

    def test_no_rule(self):
        for thing in [*any_objects(), 5, -1]:
            if thing not in (0, 1) or isinstance(thing, bool):
                self.assertEqual(raised(first_won, example_68(), thing), ("NoRule", thing))

    def test_at_the_limits(self):
        rules = [("x", "*" + "abcdefgh"[at] + "*", "*" + "bcdefghi"[at] + "*", "line") for at in range(7)]
        script = Script([*rules, ("x", "*", "*", "line")])
        self.assertEqual(len(file_classes(script)), 128)
        self.assertEqual(first_won(script, 6), ("g", "h"))
        self.assertEqual(first_untaken(script), None)


if __name__ == "__main__":
    unittest.main()
