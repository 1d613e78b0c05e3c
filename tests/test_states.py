"""Promise 37: states, good ones, the least and the greatest, upgrades."""

import unittest

from linklines.bundles import ahead, bundles, how_many_orders, is_order
from linklines.clients import lasting, served, stands_for
from linklines.links import is_link, is_why, why
from linklines.releases import Releases
from linklines.states import good_above, good_below, is_good, upgraded
from tests.release_tools import (all_states, example_42, good_states, is_below, is_dead, is_plainly_good, steady_made,
                                 unsteady_example)
from tests.tools import any_objects, call_alike, raised


def least_of(goods):
    """The one that is nowhere above any other, None if there is none."""
    least = [state for state in goods if all(is_below(state, other) for other in goods)]
    return least[0] if least else None


def greatest_of(goods):
    greatest = [state for state in goods if all(is_below(other, state) for other in goods)]
    return greatest[0] if greatest else None


class TestStates(unittest.TestCase):
    def test_good_states_and_those_around(self):
        nones = [0, 0, 0]
        for made in steady_made(200):
            releases = Releases(made)
            goods = good_states(made)
            for state in all_states(made):
                self.assertIs(is_good(releases, state), is_plainly_good(made, state))
                above = least_of([good for good in goods if is_below(state, good)])
                below = greatest_of([good for good in goods if is_below(good, state)])
                self.assertEqual(good_above(releases, state), above)
                self.assertEqual(good_below(releases, state), below)
                nones[0] += above is None
                nones[1] += below is None
                nones[2] += above == below
        self.assertGreater(min(nones), 100)

    def test_good_ones_meet_in_good_ones(self):
        pairs = 0
        for made in steady_made(120):
            goods = good_states(made)
            for one in goods:
                for other in goods:
                    pairs += not is_below(one, other) and not is_below(other, one)
                    self.assertIn({word: max(one[word], other[word]) for word in one}, goods)
                    self.assertIn({word: min(one[word], other[word]) for word in one}, goods)
        self.assertGreater(pairs, 100)

    def test_upgrades(self):
        changed = missing = 0
        for made in steady_made(40, most=3):
            releases = Releases(made)
            goods = good_states(made)
            for state in all_states(made):
                for goals in [{}, *[{word: number} for word in made for number in range(1, len(made[word]) + 1)],
                              {"c": len(made["c"]), "a": 1}]:
                    fitting = [good for good in goods if is_below(state, good)
                               and all(good[word] >= number for word, number in goals.items())]
                    told = upgraded(releases, state, goals)
                    self.assertEqual(told, least_of(fitting))
                    missing += told is None
                    changed += told is not None and told != good_above(releases, state)
        self.assertGreater(min(changed, missing), 30)

    def test_states_are_told_ascending_and_new(self):
        releases = Releases(example_42())
        for function, state in ((good_above, {"b": 1, "a": 1}), (good_below, {"b": 2, "a": 2})):
            told = call_alike(self, function, releases, state)
            self.assertEqual(list(told.items()), sorted(state.items()))
            self.assertIsNot(told, state)
        told = call_alike(self, upgraded, releases, {"b": 1, "a": 1}, {"b": 2})
        self.assertEqual(list(told.items()), [("a", 2), ("b", 2)])
        self.assertIs(call_alike(self, is_good, releases, {"b": 2, "a": 2}), True)
        self.assertIs(is_good(releases=releases, state={"b": 2, "a": 1}), False)

    def test_the_example(self):
        releases = Releases(example_42())
        goods = [tuple(state.values()) for state in all_states(example_42()) if is_good(releases, state)]
        self.assertEqual(goods, [(1, 1), (2, 2)])

    def test_dead_ones_are_in_no_good_state(self):
        made = {"a": [([], []), ([], [("b", "no", "no")]), ([], [])], "b": [([], [])]}
        releases = Releases(made)
        self.assertTrue(is_dead(made, "a", 2))
        self.assertFalse(is_good(releases, {"a": 2, "b": 1}))
        self.assertEqual(good_above(releases, {"a": 2, "b": 1}), {"a": 3, "b": 1})
        self.assertEqual(good_below(releases, {"a": 2, "b": 1}), {"a": 1, "b": 1})
        made["a"].pop()
        self.assertIsNone(good_above(Releases(made), {"a": 2, "b": 1}))
        self.assertIsNone(upgraded(Releases(made), {"a": 1, "b": 1}, {"a": 2}))
        made["a"] = [([], [("b", "no", "no")])]
        self.assertIsNone(good_below(Releases(made), {"a": 1, "b": 1}))

    def test_one_library_and_none(self):
        self.assertIs(is_good(Releases({}), {}), True)
        self.assertEqual(good_above(Releases({}), {}), {})
        self.assertEqual(good_below(Releases({}), {}), {})
        self.assertEqual(upgraded(Releases({}), {}, {}), {})
        alone = Releases({"a": [([], []), ([], [])]})
        self.assertIs(is_good(alone, {"a": 2}), True)
        self.assertEqual(upgraded(alone, {"a": 1}, {"a": 2}), {"a": 2})
        self.assertEqual(upgraded(alone, {"a": 2}, {"a": 1}), {"a": 2})


class TestErrors(unittest.TestCase):
    def bad_states(self):
        return [*any_objects(), {"a": 1}, {"a": 1, "c": 1}, {"a": 1, "b": 1, "c": 1}, {"a": 0, "b": 1}, {"a": 1, "b": 3},
                {"a": True, "b": 1}, {"a": 1, "b": "1"}, {"a": 1, "b": None}, {"a": 1, "b": [1]}, {"a": 1, None: 1},
                [("a", 1), ("b", 1)]]

    def test_bad_states(self):
        releases = Releases(example_42())
        for thing in self.bad_states():
            for function in (is_good, good_above, good_below):
                self.assertEqual(raised(function, releases, thing), ("BadState", thing))
            self.assertEqual(raised(upgraded, releases, thing, None), ("BadState", thing))

    def test_errors_keep_the_very_state(self):
        state = {"a": 3, "b": 1}
        try:
            is_good(Releases(example_42()), state)
        except ValueError as error:
            self.assertIs(error.thing, state)

    def test_bad_goals(self):
        releases = Releases(example_42())
        state = {"a": 1, "b": 1}
        for thing in any_objects():
            if not isinstance(thing, dict):
                self.assertEqual(raised(upgraded, releases, state, thing), ("BadGoals", None))
        for key in ("c", "A", "", None, 1, ("a",), False):
            self.assertEqual(raised(upgraded, releases, state, {"a": 1, key: 1, "b": 9}), ("BadGoals", key))
        for thing in [0, 3, -1, True, None, "1", [1], {}]:
            self.assertEqual(raised(upgraded, releases, state, {"b": 2, "a": thing, "c": 1}), ("BadGoals", "a"))

    def test_unsteady_comes_ahead_of_all_else(self):
        releases = Releases(unsteady_example())
        for function, many in ((is_good, 1), (good_above, 1), (good_below, 1), (upgraded, 2), (bundles, 2), (ahead, 2),
                               (is_order, 3), (how_many_orders, 2), (is_link, 1), (why, 3), (is_why, 4), (served, 2),
                               (stands_for, 3), (lasting, 2)):
            self.assertEqual(raised(function, releases, *[None] * many), ("Unsteady",))
        # by a gap, too
        gap = Releases({"a": [([("x", "u")], []), ([], []), ([("x", "u")], [])]})
        self.assertEqual(raised(is_good, gap, {"a": 1}), ("Unsteady",))
        self.assertEqual(raised(stands_for, gap, "a", 1, 2), ("Unsteady",))
