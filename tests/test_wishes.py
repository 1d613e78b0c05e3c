"""Promises 53 and 54: wishes, orders, rings, numbers and lines."""

import itertools
import random
import unittest

from linklines.wishes import (Wishes, breaking_line, first_order, least_more, least_numbers, longest_chain, many_orders,
                              sure_pairs, wish_ring)
from tests.tools import any_objects, as_lists, as_tuples, call_alike, raised, spoil

FUNCTIONS = ((first_order, 0), (many_orders, 0), (sure_pairs, 0), (least_more, 1), (least_numbers, 0), (longest_chain, 0),
             (breaking_line, 1))


def random_wishes(seed, most=5, chance=0.3, ring=False):
    dice = random.Random(seed)
    words = dice.sample("abcdefgh"[:most + 1], dice.randint(0, most))
    pairs = [(one, other) for at, one in enumerate(words) for other in words[at + 1:] if dice.random() < chance]
    if ring:
        pairs = [pair for pair in itertools.permutations(words, 2) if dice.random() < chance]
    dice.shuffle(words)
    dice.shuffle(pairs)
    return words, pairs + pairs[:1]


def keeps(line, pairs):
    return all(line.index(one) < line.index(other) for one, other in pairs)


def all_orders(words, pairs):
    return [list(line) for line in itertools.permutations(sorted(words)) if keeps(line, pairs)]


def all_rings(words, pairs):
    for many in range(1, len(words) + 1):
        for row in itertools.permutations(sorted(words), many):
            if all((one, other) in pairs for one, other in zip(row, [*row[1:], row[0]])):
                yield list(row)


def all_chains(words, pairs):
    for many in range(len(words), -1, -1):
        for row in itertools.permutations(sorted(words), many):
            if all(pair in pairs for pair in zip(row, row[1:])):
                yield list(row)


class TestWishes(unittest.TestCase):
    def test_what_is_told(self):
        wishes = Wishes(["b", "a", "c"], [["c", "a"], ("b", "a"), ("c", "a")])
        self.assertEqual(wishes.words(), ["b", "a", "c"])
        self.assertEqual(wishes.pairs(), [("c", "a"), ("b", "a"), ("c", "a")])
        self.assertEqual(Wishes(words=(), pairs=()).words(), [])
        words, pairs = ["a", "b"], [["a", "b"]]
        wishes = Wishes(words, pairs)
        words.append("c")
        pairs[0].reverse()
        for told in (wishes.words(), wishes.pairs()):
            spoil(told)
        self.assertEqual(wishes, Wishes(("a", "b"), (("a", "b"),)))

    def test_equality(self):
        wishes = Wishes(["a", "b", "c"], [("a", "b"), ("b", "c")])
        self.assertEqual(wishes, Wishes(("a", "b", "c"), [["a", "b"], ["b", "c"]]))
        for other in [Wishes(["b", "a", "c"], [("a", "b"), ("b", "c")]), Wishes(["a", "b", "c"], [("b", "c"), ("a", "b")]),
                      Wishes(["a", "b", "c"], [("a", "b")]), Wishes(["a", "b", "c", "d"], [("a", "b"), ("b", "c")]),
                      *any_objects()]:
            self.assertFalse(wishes == other)

    def test_rings(self):
        found = 0
        for seed in range(200):
            words, pairs = random_wishes(seed, 5, 0.2 + seed % 3 / 10, True)
            wishes = Wishes(words, pairs)
            ring = next(all_rings(words, pairs), None)
            self.assertEqual(wish_ring(wishes), ring)
            # an order or a ring there is, never both
            self.assertIs(ring is None, bool(all_orders(words, pairs)))
            if ring is not None:
                found += 1
                for function, many in FUNCTIONS:
                    self.assertEqual(raised(function, wishes, *[None] * many), ("Ringed", ring))
        self.assertGreater(found, 15)
        self.assertEqual(call_alike(self, wish_ring, Wishes(list("cab"), [("c", "a"), ("a", "c")])), ["a", "c"])
        self.assertEqual(wish_ring(Wishes(list("abc"), [("a", "c"), ("a", "b"), ("c", "a"), ("b", "a")])), ["a", "b"])
        # the shorter one, though another one is earlier by its words
        self.assertEqual(wish_ring(Wishes(list("abcde"), [("a", "b"), ("b", "c"), ("c", "a"), ("e", "d"), ("d", "e")])),
                         ["d", "e"])

    def test_orders(self):
        for seed in range(150):
            words, pairs = random_wishes(seed)
            wishes = Wishes(words, pairs)
            orders = all_orders(words, pairs)
            self.assertEqual(first_order(wishes), min(orders))
            self.assertEqual(many_orders(wishes), len(orders))
            sure = [(one, other) for one in sorted(words) for other in sorted(words) if one != other
                    and all(order.index(one) < order.index(other) for order in orders)]
            self.assertEqual(sure_pairs(wishes), sure)

    def test_the_fewest_further_wishes(self):
        for seed in range(60):
            words, pairs = random_wishes(seed, 4)
            dice = random.Random(seed)
            orders = all_orders(words, pairs)
            order = dice.choice(orders)
            every = [(one, other) for one in order for other in order if one != other]
            lots = []
            for many in range(len(words) + 1):
                lots = [lot for lot in itertools.combinations(every, many)
                        if all_orders(words, [*pairs, *lot]) == [order]]
                if lots:
                    break
            told = least_more(Wishes(words, pairs), order)
            self.assertEqual([set(told)], [set(lot) for lot in lots])
            self.assertEqual(told, sorted(told, key=lambda pair: order.index(pair[0])))

    def test_numbers(self):
        for seed in range(120):
            words, pairs = random_wishes(seed)
            wishes = Wishes(words, pairs)
            told = least_numbers(wishes)
            self.assertEqual(list(told), sorted(words))
            numbers = {word: 0 for word in words}
            for _ in words:
                for one, other in pairs:
                    numbers[other] = max(numbers[other], numbers[one] + 1)
            self.assertEqual(told, numbers)
            chain = longest_chain(wishes)
            self.assertEqual(chain, next(all_chains(words, pairs)))
            # so many unlike numbers are needed as it has words, and no more
            self.assertEqual(len(set(told.values())), len(chain))

    def test_breaking_lines(self):
        seen = {"none": 0, "sorted": 0, "other": 0}
        for seed in range(400):
            dice = random.Random(seed)
            words, pairs = random_wishes(seed)
            numbers = {word: dice.choice([0, 1, 1, 2]) for word in words}
            if dice.random() < 0.6:
                numbers = {word: worth // 2 for word, worth in least_numbers(Wishes(words, pairs)).items()}
            wanted = None
            for line in itertools.permutations(sorted(words)):
                if not keeps(sorted(line, key=lambda word: numbers[word]), pairs):
                    wanted = list(line)
                    break
            self.assertEqual(breaking_line(Wishes(words, pairs), numbers), wanted)
            self.assertIs(wanted is None, all(numbers[one] < numbers[other] for one, other in pairs))
            seen["none" if wanted is None else "sorted" if wanted == sorted(words) else "other"] += 1
        self.assertGreater(min(seen.values()), 20, seen)

    def test_ways_to_call(self):
        wishes = Wishes(list("cab"), [("c", "a")])
        self.assertEqual(call_alike(self, first_order, wishes), ["b", "c", "a"])
        self.assertEqual(call_alike(self, many_orders, wishes), 3)
        self.assertEqual(call_alike(self, sure_pairs, wishes), [("c", "a")])
        self.assertEqual(call_alike(self, least_more, wishes, ["b", "c", "a"]), [("b", "c")])
        self.assertEqual(call_alike(self, least_numbers, wishes), {"a": 1, "b": 0, "c": 0})
        self.assertEqual(call_alike(self, longest_chain, wishes), ["c", "a"])
        self.assertEqual(call_alike(self, breaking_line, wishes, {"a": 0, "b": 0, "c": 0}), ["a", "b", "c"])
        self.assertEqual(breaking_line(Wishes(list("abc"), [("a", "c")]), {"a": 2, "b": 2, "c": 2}), ["b", "c", "a"])
        self.assertIsNone(breaking_line(wishes, {"a": 10 ** 30, "b": 0, "c": 3}))

    def test_no_words_at_all(self):
        none = Wishes([], [])
        self.assertIsNone(wish_ring(none))
        self.assertEqual([function(none) for function in (first_order, many_orders, sure_pairs, longest_chain)],
                         [[], 1, [], []])
        self.assertEqual(least_numbers(none), {})
        self.assertEqual(least_more(none, []), [])
        self.assertIsNone(breaking_line(none, {}))

    def test_at_the_limits(self):
        free = Wishes(list("abcdefgh"), [])
        self.assertEqual(many_orders(free), 40320)
        nine = Wishes(list("abcdefghi"), [(one, other) for one, other in itertools.combinations("ihgfedcba", 2)])
        self.assertEqual(first_order(nine), list("ihgfedcba"))
        self.assertEqual(longest_chain(nine), list("ihgfedcba"))
        self.assertEqual(len(sure_pairs(nine)), 36)
        self.assertEqual(least_more(nine, list("ihgfedcba")), [])
        self.assertIsNone(breaking_line(nine, least_numbers(nine)))
        round_about = Wishes(list("abcdefghi"), list(zip("abcdefghi", "bcdefghia")))
        self.assertEqual(wish_ring(round_about), list("abcdefghi"))


class TestErrors(unittest.TestCase):
    def test_bad_words(self):
        for thing in any_objects():
            if not isinstance(thing, (list, tuple, str)):
                self.assertEqual(raised(Wishes, thing, None), ("BadWords", 0))
            self.assertEqual(raised(Wishes, ["a", thing, "a"], None), ("BadWords", 1))
        self.assertEqual(raised(Wishes, ["a", "b", "a"], None), ("BadWords", 2))
        self.assertEqual(raised(Wishes, "ab", []), ("BadWords", 0))

    def test_bad_wishes(self):
        for thing in any_objects():
            if not isinstance(thing, (list, tuple)):
                self.assertEqual(raised(Wishes, ["a", "b"], thing), ("BadWishes", 0))
            for bad in (thing, ("a", thing), (thing, "a")):
                self.assertEqual(raised(Wishes, ["a", "b"], [("a", "b"), bad, 0]), ("BadWishes", 1))
        for bad in [("a", "a"), ("a",), ("a", "b", "a"), ("a", "c"), ("c", "a"), "ab"]:
            self.assertEqual(raised(Wishes, ["a", "b"], (("b", "a"), bad)), ("BadWishes", 1))

    def test_bad_orders(self):
        wishes = Wishes(list("abc"), [("a", "b")])
        for thing in [*any_objects(), ["a", "b"], ["b", "a", "c"], ["a", "b", "c", "c"], ["a", "a", "b"], "abc",
                      ["a", "b", "d"], ["a", "c", None], {"a": 1, "b": 1, "c": 1}]:
            self.assertEqual(raised(least_more, wishes, thing), ("BadOrder", thing))
        self.assertEqual(least_more(wishes, as_tuples(["c", "a", "b"])), [("c", "a")])

    def test_bad_numbers(self):
        wishes = Wishes(list("ab"), [("a", "b")])
        for thing in [*any_objects(), {"a": 1}, {"a": 1, "b": -1}, {"a": 1, "b": True}, {"a": 1, "b": "1"}, {"a": 1, "c": 1},
                      {"a": 1, "b": 1, "c": 1}, {"a": None, "b": 1}, as_lists([("a", 1), ("b", 1)]), {"a": 1, 0: 1}]:
            self.assertEqual(raised(breaking_line, wishes, thing), ("BadNumbers", thing))


if __name__ == "__main__":
    unittest.main()
