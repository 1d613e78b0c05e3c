"""Promises 93 and 94: tables of names, and what is told of all words at once."""

import fractions
import itertools
import random
import unittest

from linklines.nametables import (NameTable, false_passes, first_false, mean_steps, most_steps, numbers_at, parted_by)
from tests.tools import any_objects, call_alike, raised, spoil

LETTERS = "abcdefghijklmnopqrstuvwxyz"
SHORT = ["".join(row) for many in (1, 2) for row in itertools.product(LETTERS, repeat=many)]
FUNCTIONS = (numbers_at, false_passes, mean_steps)


class Plain:
    """A table read plainly after the document."""

    def __init__(self, words, factor, modulo, buckets, spots):
        self.words, self.factor, self.modulo, self.buckets, self.spots = words, factor, modulo, buckets, spots
        self.there = {spot for word in words for spot in self.spots_of(word)}

    def number(self, word):
        number = 0
        for letter in word:
            number = (number * self.factor + LETTERS.index(letter) + 1) % self.modulo
        return number

    def spots_of(self, word):
        return {self.number(word) % self.spots, self.number(word) // self.spots % self.spots}

    def passes(self, word):
        return self.spots_of(word) <= self.there

    def find(self, word):
        steps = 0
        if not self.passes(word):
            return (None, 0)
        for place, other in enumerate(self.words):
            if self.number(other) % self.buckets == self.number(word) % self.buckets:
                steps += 1 + (self.number(other) == self.number(word))
                if other == word:
                    return (place, steps)
        return (None, steps)


def random_tables(many):
    for seed in range(many):
        dice = random.Random(seed)
        words = dice.sample(SHORT, dice.randint(0, 12))
        measures = (dice.choice([1, 2, 3, 5, 26, 31]), dice.choice([1, 3, 7, 10, 50, 97]), dice.randint(1, 6), dice.randint(1, 40))
        yield dice, words, measures


class TestTables(unittest.TestCase):
    def test_finding(self):
        seen = {"away": 0, "long": 0, "there": 0}
        for dice, words, measures in random_tables(60):
            table, plain = NameTable(words, *measures), Plain(words, *measures)
            for word in [*words, *dice.sample(SHORT, 60), "zzzzzzzz", "abcdefgh"]:
                told = table.find(word)
                self.assertEqual(told, plain.find(word))
                seen["away" if told[1] == 0 else "long" if told[0] is None else "there"] += 1
        self.assertGreater(min(seen.values()), 100, seen)

    def test_what_is_told(self):
        words = ["b", "a"]
        table = NameTable(words=words, factor=3, modulo=10, buckets=2, spots=7)
        words.append("c")
        spoil(table.words())
        self.assertEqual(table.words(), ["b", "a"])
        self.assertEqual(table.find(word="a"), (1, 2))
        self.assertEqual(table, NameTable(("b", "a"), 3, 10, 2, 7))
        for other in [NameTable(["a", "b"], 3, 10, 2, 7), NameTable(["b", "a"], 4, 10, 2, 7), NameTable(["b", "a"], 3, 11, 2, 7),
                      NameTable(["b", "a"], 3, 10, 3, 7), NameTable(["b", "a"], 3, 10, 2, 8), *any_objects()]:
            self.assertFalse(table == other)

    def test_steps(self):
        # all three have one bucket; z has the other one, and b a spot that is not there
        table = NameTable(["a", "c", "e"], 1, 26, 2, 5)
        self.assertEqual([table.find(word) for word in "ace"], [(0, 2), (1, 3), (2, 4)])
        self.assertEqual(table.find("z"), (None, 0))
        self.assertEqual(table.find("y"), (None, 3))
        self.assertEqual(table.find("b"), (None, 0))
        self.assertEqual(table.find("aaa"), (None, 4))

    def test_errors(self):
        for thing in any_objects():
            if not isinstance(thing, (list, tuple)):
                self.assertEqual(raised(NameTable, thing, None, None, None, None), ("BadWords", 0))
            self.assertEqual(raised(NameTable, ["b", thing, 0], None, None, None, None), ("BadWords", 1))
            if not isinstance(thing, int) or isinstance(thing, bool) or thing < 1:
                for at in range(4):
                    numbers = [1] * at + [thing] + [0] * (3 - at)
                    self.assertEqual(raised(NameTable, ["b"], *numbers), ("BadNumber", thing))
            self.assertEqual(raised(NameTable(["a"], 1, 2, 3, 4).find, thing), ("BadWord", thing))
            if thing != 1 or isinstance(thing, bool):
                for function in FUNCTIONS:
                    self.assertEqual(raised(function, NameTable(["a"], 1, 2, 3, 4), thing), ("BadLength", thing))
        self.assertEqual(raised(NameTable, ["b", "a", "b"], 0, 0, 0, 0), ("BadWords", 2))
        for function in FUNCTIONS:
            for thing in (9, -1):
                self.assertEqual(raised(function, NameTable(["a"], 1, 2, 3, 4), thing), ("BadLength", thing))
            self.assertIsNone(raised(function, NameTable(["a"], 1, 2, 3, 4), 8))


class TestAllWords(unittest.TestCase):
    def test_of_each_length(self):
        for _, words, measures in random_tables(40):
            table, plain = NameTable(words, *measures), Plain(words, *measures)
            for length in (1, 2):
                every = [word for word in SHORT if len(word) == length]
                numbers = sorted(plain.number(word) for word in every)
                told = numbers_at(table, length)
                self.assertEqual(list(told.items()), [(n, numbers.count(n)) for n in sorted(set(numbers))])
                self.assertEqual(false_passes(table, length), sum(plain.passes(word) and word not in words for word in every))
                mean = fractions.Fraction(sum(plain.find(word)[1] for word in every), len(every))
                self.assertEqual(mean_steps(table, length), (mean.numerator, mean.denominator))

    def test_first_ones(self):
        # words of three letters are gone through only where shorter ones are not enough
        seen = {"false": 0, "most": 0, "parted": 0}
        for dice, words, measures in random_tables(60):
            table, plain = NameTable(words, *measures), Plain(words, *measures)
            told = first_false(table)
            short = [word for word in SHORT if plain.passes(word) and word not in words]
            if short:
                self.assertEqual(told, short[0])
                seen["false"] += 1
            elif told is not None:
                self.assertTrue(len(told) > 2 and plain.passes(told))
            steps, word = most_steps(table)
            found = [plain.find(word)[1] for word in SHORT]
            self.assertGreaterEqual(steps, max(found))
            self.assertEqual(plain.find(word)[1], steps)
            if steps == max(found):
                self.assertEqual(word, SHORT[found.index(steps)])
                seen["most"] += 1
            other_words = words if dice.random() < 0.6 else words[1:]
            other_measures = (*measures[:2], dice.choice([measures[2], 3]), measures[3])
            if dice.random() < 0.4:
                other_measures = (dice.choice([2, 7]), dice.choice([11, 64]), *measures[2:])
            other, further = NameTable(other_words, *other_measures), Plain(other_words, *other_measures)
            told = parted_by(table, other)
            short = [word for word in SHORT if (word in words) != (word in other_words)
                     or plain.find(word)[1] != further.find(word)[1]]
            if short:
                self.assertEqual(told, short[0])
                seen["parted"] += 1
            elif told is not None:
                self.assertGreater(len(told), 2)
                self.assertNotEqual(plain.find(told)[1], further.find(told)[1])
        self.assertGreater(min(seen.values()), 15, seen)

    def test_without_words(self):
        table = NameTable([], 31, 500, 100, 100)
        self.assertEqual(call_alike(self, most_steps, table), (0, "a"))
        self.assertIsNone(call_alike(self, first_false, table))
        self.assertEqual(call_alike(self, mean_steps, table, 8), (0, 1))
        self.assertEqual(call_alike(self, false_passes, table, 8), 0)
        self.assertIsNone(call_alike(self, parted_by, table, NameTable([], 7, 13, 1, 1)))

    def test_words_that_are_the_only_ones_with_their_number(self):
        # each of the 26 words of one letter has a number of its own, and no longer one has it
        table = NameTable(["a", "c", "e"], 500, 500, 500, 500)
        self.assertEqual(numbers_at(table, 8), {letter: 26 ** 7 for letter in range(1, 27)})
        self.assertEqual(most_steps(table), (2, "a"))
        self.assertEqual(first_false(table), "aa")
        own = NameTable(list(LETTERS), 500, 500, 1, 500)
        self.assertEqual(most_steps(own), (27, "z"))
        self.assertEqual(parted_by(own, NameTable(list(LETTERS)[::-1], 500, 500, 1, 500)), "a")

    def test_longer_words_that_are_there(self):
        # by twos no shorter word, and no other one of its length, has the number of so many z
        for length, modulo in ((2, 100), (3, 200), (4, 500), (5, 900), (6, 1700), (7, 3400), (8, 6700)):
            word = "z" * length
            table = NameTable([word], 2, modulo, 1, modulo)
            told = first_false(table)
            if length == 8:
                self.assertIsNone(told)
            else:
                self.assertEqual(len(told), length + 1)
                self.assertEqual(table.find(told), (None, 2))
            self.assertEqual(most_steps(table), (2, word))
            self.assertEqual(false_passes(table, length), 0)
            self.assertEqual(parted_by(table, NameTable([word], 2, modulo, 1, 1)), "a")
            other = NameTable(["z" * (length - 1), word], 2, modulo, 1, modulo)
            self.assertEqual(parted_by(table, other), "z" * (length - 1))

    def test_numbers_that_only_words_of_the_table_have(self):
        # by twos just these two words have 6628: who is not there never takes five steps
        table = NameTable(["zzzzzzzx", "zzzzzzyz", "zzzzzzzz"], 2, 6700, 1, 6700)
        self.assertEqual(numbers_at(table, 8)[6628], 2)
        self.assertEqual([table.find(word)[1] for word in table.words()], [2, 4, 4])
        self.assertEqual(most_steps(table), (4, "zzzzzzyz"))
        self.assertIsNone(first_false(table))

    def test_where_tables_part(self):
        one = NameTable(["b", "a"], 31, 101, 7, 9)
        self.assertEqual(parted_by(one, NameTable(["b"], 31, 101, 7, 9)), "a")
        self.assertIsNone(parted_by(one, NameTable(["b", "a"], 31, 101, 7, 9)))
        # a word that is there in both, behind another one in one of them
        two = [NameTable(words, 1, 500, 1, 1) for words in (["c", "d"], ["d", "c"])]
        self.assertEqual(parted_by(*two), "c")
        self.assertEqual(parted_by(one=two[0], other=two[1]), "c")

    def test_at_the_limits(self):
        words = [one + other for one in "abcde" for other in "fghijklm"]
        table = NameTable(words, 31, 500, 100, 100)
        self.assertEqual(sum(numbers_at(table, 8).values()), 26 ** 8)
        self.assertLess(false_passes(table=table, length=8), 26 ** 8)
        self.assertEqual(mean_steps(table=table, length=8)[1] % 2, 0)
        self.assertGreater(most_steps(table=table)[0], 1)
        self.assertEqual(len(first_false(table=table)), 1)
        bare = [NameTable([], 31, 101, 100, 100), NameTable([], 29, 99, 100, 100)]
        self.assertIsNone(parted_by(*bare))
        self.assertEqual(numbers_at(table=table, length=1)[1], 1)


if __name__ == "__main__":
    unittest.main()
