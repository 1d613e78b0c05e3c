"""Promise 38: bundles, their orders, and the example of 42."""

import itertools
import random
import unittest

from linklines.bundles import ahead, bundles, how_many_orders, is_order
from linklines.links import is_why, why
from linklines.releases import Releases
from tests.release_tools import (all_goings, changes_of, example_42, example_42_wide, good_states, is_below,
                                 steady_made)
from tests.tools import any_objects, call_alike, raised


def ways_of(most_goods=40, many=200, most=4):
    """Triples (made, state, goal, all goings) of good states one above the other, not too many between."""
    for made in steady_made(many, most=most, chance=0.35):
        goods = good_states(made)
        if len(goods) <= most_goods and goods:
            low = goods[0]
            for goal in goods[::-1][:3]:
                if is_below(low, goal):
                    yield made, low, goal, all_goings(goods, low, goal)


def plain_first(goings):
    """Of all rows of bundles the one that is chosen step by step."""
    left = [changes_of(way) for way in goings]
    told = []
    for at in range(len(left[0])):
        words = min((sorted(row[at]) for row in left), key=lambda row: (len(row), row))
        left = [row for row in left if sorted(row[at]) == words]
        told.append(left[0][at])
    return told


class TestBundles(unittest.TestCase):
    def test_bundles_and_their_orders(self):
        seen = {"many": 0, "wide": 0, "orders": 0}
        for made, state, goal, goings in ways_of():
            releases = Releases(made)
            told = bundles(releases, state, goal)
            self.assertEqual(told, plain_first(goings))
            for way in goings:
                self.assertEqual(sorted(sorted(pack.items()) for pack in changes_of(way)),
                                 sorted(sorted(pack.items()) for pack in told))
            orders = [[told.index(pack) for pack in changes_of(way)] for way in goings]
            pairs = [(k, l) for k in range(len(told)) for l in range(len(told)) if k != l
                     and all(order.index(k) < order.index(l) for order in orders)]
            self.assertEqual(ahead(releases, state, goal), pairs)
            self.assertEqual(how_many_orders(releases, state, goal), len(orders))
            if len(told) <= 4:
                for order in itertools.permutations(range(len(told))):
                    self.assertIs(is_order(releases, state, goal, order), list(order) in orders)
            seen["many"] += len(told) > 2
            seen["wide"] += any(len(pack) > 1 for pack in told)
            seen["orders"] += len(orders) > 1
        self.assertGreater(min(seen.values()), 10)

    def test_all_states_between_are_good(self):
        for made in steady_made(25, words=("a", "b", "c", "d"), most=3, chance=0.25):
            goods = good_states(made)
            releases = Releases(made)
            for goal in goods[-2:]:
                if is_below(goods[0], goal):
                    state = dict(goods[0])
                    for pack in bundles(releases, goods[0], goal):
                        for word, (one, other) in pack.items():
                            self.assertEqual(state[word], one)
                            state[word] = other
                        self.assertIn(state, goods)
                    self.assertEqual(state, goal)

    def test_orders_keep_all_pairs_of_ahead(self):
        dice = random.Random(7)
        for made, state, goal, goings in ways_of(many=80):
            releases = Releases(made)
            many = len(changes_of(goings[0]))
            pairs = ahead(releases, state, goal)
            for _ in range(6):
                order = dice.sample(range(many), many)
                keeps = all(order.index(k) < order.index(l) for k, l in pairs)
                self.assertIs(is_order(releases, state, goal, order), keeps)

    def test_libraries_go_on_one_at_a_time_where_each_bundle_is_of_one(self):
        seen = {True: 0, False: 0}
        for made in steady_made(150):
            goods = good_states(made)
            if not goods or not is_below(goods[0], goods[-1]):
                continue
            for state, goal in ((goods[0], goods[-1]), (goods[len(goods) // 3], goods[-1])):
                if not is_below(state, goal):
                    continue
                # going up and down, even below the state or beyond the goal
                reached, waiting = [state], [state]
                while waiting:
                    one = waiting.pop()
                    near = [other for other in goods if other not in reached
                            and sum(one[word] != other[word] for word in one) == 1]
                    reached.extend(near)
                    waiting.extend(near)
                told = bundles(Releases(made), state, goal)
                self.assertIs(goal in reached, all(len(pack) == 1 for pack in told))
                seen[goal in reached] += 1
        self.assertGreater(min(seen.values()), 20, seen)

    def test_what_is_no_order(self):
        releases = Releases(example_42_wide())
        low, high = {"a": 1, "b": 1}, {"a": 2, "b": 2}
        self.assertIs(call_alike(self, is_order, releases, low, high, [0, 1]), True)
        for thing in [*any_objects(), [1, 0], [0], [0, 1, 1], [0, 0], [0, 2], [False, True], [0, True], ["0", "1"],
                      [None, 1], [[0], 1], {0: 0, 1: 1}, "01", [0, 1, 2], [-1, 0]]:
            self.assertIs(is_order(releases, low, high, thing), False, thing)
        self.assertIs(is_order(releases, low, low, []), True)
        self.assertIs(is_order(releases, low, low, ()), True)
        self.assertIs(is_order(releases, low, low, [0]), False)

    def test_one_state_for_both_ends(self):
        releases = Releases(example_42())
        state = {"b": 2, "a": 2}
        self.assertEqual(call_alike(self, bundles, releases, state, state), [])
        self.assertEqual(ahead(releases, state, state), [])
        self.assertEqual(how_many_orders(releases, state, state), 1)
        self.assertEqual(bundles(Releases({}), {}, {}), [])

    def test_the_example(self):
        low, high = {"a": 1, "b": 1}, {"a": 2, "b": 2}
        told = call_alike(self, bundles, Releases(example_42()), low, high)
        self.assertEqual(told, [{"a": (1, 2), "b": (1, 2)}])
        self.assertEqual([list(pack) for pack in told], [["a", "b"]])
        self.assertEqual(how_many_orders(Releases(example_42()), low, high), 1)
        wide = Releases(example_42_wide())
        self.assertEqual(call_alike(self, bundles, wide, low, high), [{"b": (1, 2)}, {"a": (1, 2)}])
        self.assertEqual(call_alike(self, ahead, wide, low, high), [(0, 1)])
        self.assertEqual(call_alike(self, how_many_orders, wide, low, high), 1)

    def test_bundles_are_told_new(self):
        wide = Releases(example_42_wide())
        low, high = {"a": 1, "b": 1}, {"a": 2, "b": 2}
        told = bundles(wide, low, high)
        told[0]["z"] = 1
        self.assertEqual(bundles(wide, low, high), [{"b": (1, 2)}, {"a": (1, 2)}])

    def test_fewest_libraries_go_first(self):
        # a and b together or c alone: c, though it is last by name; of d and e, which are alone, d
        made = {"a": [([("x", "u")], [("b", "x", "u")]), ([("x", "v")], [("b", "x", "v")])],
                "b": [([("x", "u")], [("a", "x", "u")]), ([("x", "v")], [("a", "x", "v")])],
                "c": [([], []), ([], [])], "e": [([], []), ([], []), ([], [])], "d": [([], []), ([], [])]}
        state = {word: 1 for word in made}
        goal = {word: len(kept) for word, kept in made.items()}
        self.assertEqual(bundles(Releases(made), state, goal),
                         [{"c": (1, 2)}, {"d": (1, 2)}, {"e": (1, 2)}, {"e": (2, 3)}, {"a": (1, 2), "b": (1, 2)}])
        self.assertEqual(ahead(Releases(made), state, goal), [(2, 3)])
        self.assertEqual(how_many_orders(Releases(made), state, goal), 60)

    def test_at_the_limits(self):
        made = {word: [([("x", "u")], []) for _ in range(8)] for word in "abcdef"}
        state = {word: 1 for word in made}
        goal = {**{word: 3 for word in "abcdef"}}
        self.assertEqual(how_many_orders(Releases(made), state, goal), 7484400)
        self.assertEqual(len(bundles(Releases(made), state, {word: 8 for word in made})), 42)
        self.assertEqual(len(ahead(Releases(made), state, {word: 8 for word in made})), 6 * 21)


class TestErrors(unittest.TestCase):
    def all_calls(self, releases, state, goal):
        return [raised(function, releases, state, goal, *more)
                for function, more in ((bundles, ()), (ahead, ()), (is_order, (None,)), (how_many_orders, ()),
                                       (why, (None,)), (is_why, (None, None)))]

    def test_errors_and_their_order(self):
        releases = Releases(example_42())
        good, high, bad = {"a": 1, "b": 1}, {"a": 2, "b": 2}, {"a": 1, "b": 2}
        for thing in [*any_objects(), {"a": 1}, {"a": 1, "b": 0}, {"a": 1, "b": True}]:
            self.assertEqual(self.all_calls(releases, thing, None), [("BadState", thing)] * 6)
            self.assertEqual(self.all_calls(releases, good, thing), [("BadState", thing)] * 6)
            self.assertEqual(self.all_calls(releases, bad, thing), [("BadState", thing)] * 6)
        other = {"a": 2, "b": 1}
        self.assertEqual(self.all_calls(releases, bad, other), [("NotGood", bad)] * 6)
        self.assertEqual(self.all_calls(releases, good, other), [("NotGood", other)] * 6)
        self.assertEqual(self.all_calls(releases, high, other), [("NotGood", other)] * 6)
        self.assertEqual(self.all_calls(releases, high, good), [("NotAbove", "a")] * 6)
        wide = Releases(example_42_wide())
        self.assertEqual(self.all_calls(wide, {"a": 1, "b": 2}, good), [("NotAbove", "b")] * 6)

    def test_the_first_library_ascending_that_would_go_down(self):
        releases = Releases({word: [([], []), ([], [])] for word in "cba"})
        self.assertEqual(self.all_calls(releases, {"c": 2, "b": 2, "a": 1}, {"c": 1, "b": 1, "a": 2}),
                         [("NotAbove", "b")] * 6)

    def test_errors_keep_the_very_state(self):
        state = {"a": 1, "b": 2}
        for function in (bundles, ahead, how_many_orders):
            try:
                function(Releases(example_42()), state, state)
            except ValueError as error:
                self.assertIs(error.state, state)


if __name__ == "__main__":
    unittest.main()
