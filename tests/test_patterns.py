"""Promise 61: patterns of names."""

import itertools
import random
import unittest

from linklines.patterns import is_pattern, matches
from tests.script_tools import SIGNS, is_plainly_matched, random_pattern
from tests.tools import any_objects, call_alike, raised


class TestPatterns(unittest.TestCase):
    def test_what_is_a_pattern(self):
        for thing in ["a", "?", "*", ".", "_", "9", "[a]", "[a.]", "[_9z]", "a*b?[cd].", "**********", "[" + SIGNS + "]",
                      "[ab]" * 10, "abcdefghij"]:
            self.assertIs(call_alike(self, is_pattern, thing), True, thing)
        for thing in [*any_objects(), "A", "-", "a b", "[]", "[", "]", "a]", "[a", "[[a]", "[a]]", "[aa]", "[aba]", "[A]",
                      "[a-b]", "[ab", "a[bcd", "[a][bc", "[?]", "[*]", "abcdefghijk", "[ab]" * 11, "*" * 11, b"a", ["a"], "\n", "a\n", "[a\n]",
                      "[a]["]:
            if thing != "a" * 9:
                self.assertIs(is_pattern(thing), False, thing)

    def test_matching(self):
        for sign in SIGNS:
            for other in SIGNS:
                self.assertIs(matches(sign, other), sign == other)
            self.assertIs(matches("?", sign), True)
            self.assertIs(matches("*", sign), True)
            self.assertIs(matches("[" + SIGNS.replace(sign, "") + "]", sign), False)
        names = ["".join(row) for many in range(1, 6) for row in itertools.product("ab", repeat=many)]
        dice = random.Random(5)
        seen = {True: 0, False: 0}
        for _ in range(300):
            pattern = random_pattern(dice, "ab", 5)
            for name in dice.sample(names, 20):
                told = matches(pattern, name)
                self.assertIs(told, is_plainly_matched(pattern, name), (pattern, name))
                seen[told] += 1
        self.assertGreater(min(seen.values()), 1000)

    def test_edges(self):
        for pattern, name, wanted in [("a*", "a", True), ("*a", "a", True), ("***", "a", True), ("a*a", "a", False),
                                      ("a*a", "aa", True), ("?*?", "a", False), (".", "a", False), ("a.", "ab", False),
                                      ("*.[dr]*", ".data", True), ("b", "ab", False), ("b", "ba", False),
                                      ("*ab", "aab", True), ("*ab*ab", "abab", True), ("*ab*ab", "aba", False)]:
            self.assertIs(call_alike(self, matches, pattern, name), wanted, (pattern, name))
        self.assertIs(matches(pattern="*z", name="abcdefghijkz"), True)
        self.assertIs(matches("?" * 10, "abcdefghij"), True)
        self.assertIs(matches("?" * 10, "abcdefghijk"), False)

    def test_errors(self):
        for thing in [*any_objects(), "[", "A"]:
            if thing != "a" * 9:
                self.assertEqual(raised(matches, thing, None), ("BadPattern", thing))
        for thing in [*any_objects(), "a" * 13, "a*", "?", "[a]", "A"]:
            if thing != "a" * 9:
                self.assertEqual(raised(matches, "*", thing), ("BadName", thing))
        self.assertIs(matches("*", "a" * 12), True)


if __name__ == "__main__":
    unittest.main()
