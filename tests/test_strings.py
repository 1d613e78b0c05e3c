"""Promises 92, 95 and 96: tables of strings, the fewest buckets, tables of slots."""

import itertools
import random
import unittest

from linklines.nametables import NameTable, least_buckets
from linklines.slottables import are_crowds, fewest_tables
from linklines.strings import first_dear, grown_strings, holds_all, least_strings
from tests.tools import any_objects, call_alike, raised


def random_words(dice, most=7, signs="ab", longest=4):
    return list(dict.fromkeys("".join(dice.choices(signs, k=dice.randint(1, longest))) for _ in range(dice.randint(0, most))))


class TestStrings(unittest.TestCase):
    def test_least_tables(self):
        for seed in range(150):
            words = random_words(random.Random(seed))
            table, places = least_strings(words)
            kept = sorted(word for word in words if not any(other != word and other.endswith(word) for other in words))
            self.assertEqual(table, "".join(word + "." for word in kept))
            self.assertEqual(list(places.items()), [(word, table.index(word + ".")) for word in sorted(words)])
            self.assertIs(holds_all(table, words), True)

    def test_no_table_is_shorter(self):
        for words in (["a"], ["ab", "b"], ["a", "b"], ["ba", "a", "aa"], ["ab", "ba"]):
            table, _ = least_strings(words)
            for many in range(len(table)):
                for row in itertools.product("ab.", repeat=many):
                    self.assertIs(holds_all("".join(row), words), False)

    def test_grown_tables(self):
        dear = 0
        for seed in range(200):
            words = random_words(random.Random(seed))
            table = ""
            for word in words:
                table += "" if word + "." in table else word + "."
            self.assertEqual(grown_strings(words), table)
            self.assertIs(holds_all(table, words), True)
            told = first_dear(words)
            found = [at for at, word in enumerate(words) if any(other.endswith(word) for other in words[at + 1:])
                     and not any(other.endswith(word) for other in words[:at])]
            self.assertEqual(told, found[0] if found else None)
            self.assertIs(len(table) == len(least_strings(words)[0]), told is None)
            dear += told is not None
        self.assertGreater(dear, 50)

    def test_calls(self):
        self.assertEqual(call_alike(self, least_strings, ["b", "ab", "c"]), ("ab.c.", {"ab": 0, "b": 1, "c": 3}))
        self.assertEqual(call_alike(self, first_dear, ["b", "ab"]), 0)
        self.assertIsNone(call_alike(self, first_dear, ["ab", "b"]))
        self.assertEqual(call_alike(self, grown_strings, ["b", "ab", "b" * 8]), "b.ab.bbbbbbbb.")
        self.assertIs(call_alike(self, holds_all, "ab.c", ["b"]), True)
        self.assertIs(holds_all(table="ab.c", words=["c"]), False)
        self.assertIs(holds_all("", []), True)
        self.assertIs(holds_all("..a.", ["a"]), True)
        self.assertEqual(least_strings(words=[]), ("", {}))
        self.assertEqual(grown_strings(words=()), "")
        # the first place: an end of another word, not the word by itself
        self.assertEqual(least_strings(["ca", "ba", "a"])[1]["a"], 1)

    def test_errors(self):
        for function, ahead in ((least_strings, ()), (grown_strings, ()), (first_dear, ()), (holds_all, ("a.",))):
            for thing in any_objects():
                if not isinstance(thing, (list, tuple)):
                    self.assertEqual(raised(function, *ahead, thing), ("BadWords", 0))
                self.assertEqual(raised(function, *ahead, ["b", thing, 0]), ("BadWords", 1))
            self.assertEqual(raised(function, *ahead, ["b", "a", "b"]), ("BadWords", 2))
        for thing in [*any_objects(), "a b", "A.", "a\n", "a1."]:
            if thing not in ("", "a" * 9):
                self.assertEqual(raised(holds_all, thing, None), ("BadTable", thing))


class TestBuckets(unittest.TestCase):
    def test_the_fewest(self):
        none = several = 0
        for seed in range(150):
            dice = random.Random(seed)
            words = random_words(dice, 9, "abz", 3)
            factor, modulo, most = dice.randint(1, 30), dice.randint(1, 40), dice.randint(1, 3)
            numbers = [NameTable([], factor, modulo, 1, 1).number_of_word(word) for word in words]
            told = least_buckets(words, factor, modulo, most)
            if any(numbers.count(number) > most for number in numbers):
                self.assertIsNone(told)
                none += 1
                continue
            lots = []
            for buckets in itertools.count(1):
                held = [[word for word, number in zip(words, numbers) if number % buckets == at] for at in range(buckets)]
                full = [tuple(row[:most + 1]) for row in held if len(row) > most]
                if not full:
                    break
                lots.append(full[0])
            self.assertEqual(told, (buckets, lots))
            self.assertLessEqual(buckets, modulo)
            several += len(lots) > 2
        self.assertGreater(min(none, several), 20)

    def test_calls_and_errors(self):
        self.assertEqual(call_alike(self, least_buckets, ["a", "c", "b"], 1, 26, 1, told_lists=False), (3, [("a", "c"), ("a", "c")]))
        self.assertEqual(least_buckets(words=[], factor=1, modulo=5, most=1), (1, []))
        for thing in any_objects():
            if not isinstance(thing, (list, tuple)):
                self.assertEqual(raised(least_buckets, thing, None, None, None), ("BadWords", 0))
            self.assertEqual(raised(least_buckets, ["a", thing], None, None, None), ("BadWords", 1))
            if not isinstance(thing, int) or isinstance(thing, bool) or thing < 1:
                self.assertEqual(raised(least_buckets, ["a"], thing, None, None), ("BadNumber", thing))
                self.assertEqual(raised(least_buckets, ["a"], 1, thing, None), ("BadNumber", thing))
                self.assertEqual(raised(least_buckets, ["a"], 1, 1, thing), ("BadNumber", thing))


class TestSlots(unittest.TestCase):
    def test_the_fewest_tables(self):
        several = 0
        for seed in range(200):
            dice = random.Random(seed)
            things = [(word, number) for word in "ab" for number in (0, 1, -1)]
            wants = [dice.choices(things, k=dice.randint(0, 4)) for _ in range(dice.randint(0, 7))]
            most = dice.randint(1, 6)
            full = [index for index, want in enumerate(wants) if len(set(want)) > most]
            if full:
                self.assertEqual(raised(fewest_tables, wants, most), ("Full", full[0]))
                continue
            stretches, crowds = fewest_tables(wants, most)
            self.assertEqual([at for first, last in stretches for at in range(first, last + 1)], list(range(len(wants))))
            for first, last in stretches:
                self.assertLessEqual(len({slot for want in wants[first:last + 1] for slot in want}), most)
                if last + 1 < len(wants):
                    self.assertGreater(len({slot for want in wants[first:last + 2] for slot in want}), most)
            self.assertEqual(crowds, [(one[0], other[0]) for one, other in zip(stretches, stretches[1:])])
            self.assertIs(are_crowds(wants, most, crowds), True)
            # no fewer tables do
            for many in range(1, len(stretches)):
                for cuts in itertools.combinations(range(1, len(wants)), many - 1):
                    ends = [0, *cuts, len(wants)]
                    self.assertTrue(any(len({slot for want in wants[a:b] for slot in want}) > most for a, b in zip(ends, ends[1:])))
            several += len(stretches) > 2
        self.assertGreater(several, 10)

    def test_crowds(self):
        wants = [[("a", 1)], [("b", 1)], [("a", 1), ("a", 1)], [("c", 1), ("d", 1)], []]
        self.assertEqual(call_alike(self, fewest_tables, wants, 2, told_lists=False), ([(0, 2), (3, 4)], [(0, 3)]))
        for thing, wanted in (([], True), ([(0, 3)], True), ([(1, 3), (3, 4)], False), ([(0, 2)], False), ([(1, 3)], True),
                              ([(0, 3), (2, 4)], False), ([(0, 5)], False), ([(-1, 3)], False), ([(3, 0)], False),
                              ([(0, True)], False), ([(0, 3, 4)], False), ([(2, 3)], True), ([(0, 3), (3, 3)], False)):
            self.assertIs(call_alike(self, are_crowds, wants, 2, thing), wanted, thing)
        self.assertIs(are_crowds(wants, 1, [(0, 1), (1, 2), (2, 3), (3, 3)]), True)
        self.assertIs(are_crowds(wants, 1, [(0, 2), (1, 3)]), False)
        self.assertIs(are_crowds(wants=wants, most=1, thing=[(3, 3), (3, 3)]), True)
        for thing in any_objects():
            self.assertIs(are_crowds(wants, 2, thing), thing == [] or thing == ())
            self.assertIs(are_crowds(wants, 2, [thing]), False)
        self.assertEqual(fewest_tables(wants=[], most=1), ([], []))
        self.assertEqual(fewest_tables([[]], 1), ([(0, 0)], []))

    def test_errors(self):
        for function, more in ((fewest_tables, ()), (are_crowds, (None,))):
            for thing in any_objects():
                if not isinstance(thing, (list, tuple)):
                    self.assertEqual(raised(function, thing, None, *more), ("BadWants", 0))
                    self.assertEqual(raised(function, [[], thing, 0], None, *more), ("BadWants", 1))
                self.assertEqual(raised(function, [[], [("a", 1), thing], 0], None, *more), ("BadWants", 1))
                self.assertEqual(raised(function, [[], [(thing, 1)]], None, *more), ("BadWants", 1))
                if not isinstance(thing, int) or isinstance(thing, bool):
                    self.assertEqual(raised(function, [[], [("a", thing)]], None, *more), ("BadWants", 1))
                if not isinstance(thing, int) or isinstance(thing, bool) or thing < 1:
                    self.assertEqual(raised(function, [[("a", 1)] * 3], thing, *more), ("BadNumber", thing))
        self.assertEqual(raised(fewest_tables, [[], [("a", 1), ("a", 2)], [("a", 1), ("a", 2)]], 1), ("Full", 1))
        self.assertIsNone(raised(fewest_tables, [[("a", 1), ("a", 1)]], 1))


if __name__ == "__main__":
    unittest.main()
