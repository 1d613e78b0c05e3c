"""Promises 40 and 41: clients, how long they are served; nodes of versions."""

import itertools
import random
import unittest

from linklines.clients import apart, lasting, least_nodes, served, stands_for
from linklines.releases import Releases
from tests.release_tools import all_states, example_42, example_42_wide, good_states, is_below, steady_made
from tests.tools import any_objects, as_lists, call_alike, raised


def is_plainly_served(made, state, client):
    return all((name, version) in made[word][state[word] - 1][0] for word, name, version in client)


def random_client(dice, made, state=None):
    """Triples, most of them told somewhere, at a state if one is given."""
    every = [(word, *pair) for word, kept in made.items() for at, (tells, _) in enumerate(kept)
             for pair in tells if state is None or state[word] == at + 1]
    every = sorted(set(every)) + ([("a", "no", "no")] if state is None else [])
    return dice.sample(every, min(len(every), dice.randint(0, 3)))


class TestClients(unittest.TestCase):
    def test_who_is_served(self):
        dice = random.Random(1)
        seen = {True: 0, False: 0}
        for made in steady_made(30):
            for state in all_states(made):
                client = random_client(dice, made)
                told = served(Releases(made), state, client)
                self.assertIs(told, is_plainly_served(made, state, client))
                seen[told] += 1
        self.assertGreater(min(seen.values()), 100)

    def test_who_stands_for_whom(self):
        seen = {True: 0, False: 0}
        for made in steady_made(30):
            releases = Releases(made)
            for word, kept in made.items():
                for newer, elder in itertools.product(range(1, len(kept) + 1), repeat=2):
                    lacking = sorted(set(kept[elder - 1][0]) - set(kept[newer - 1][0]))
                    told = stands_for(releases, word, newer, elder)
                    self.assertEqual(told, lacking[0] if lacking else None)
                    seen[told is None] += 1
        self.assertGreater(min(seen.values()), 100)

    def test_how_long_it_lasts(self):
        dice = random.Random(2)
        seen = {"last": 0, "stays": 0, "between": 0}
        for made in steady_made(120):
            releases = Releases(made)
            goods = good_states(made)
            for state in goods[:6]:
                client = random_client(dice, made, state)
                fitting = [good for good in goods if is_below(state, good) and is_plainly_served(made, good, client)]
                greatest = [good for good in fitting if all(is_below(other, good) for other in fitting)]
                told = lasting(releases, state, client)
                self.assertEqual([told], greatest)
                between = [good for good in goods if is_below(state, good) and is_below(good, told)]
                self.assertTrue(all(is_plainly_served(made, good, client) for good in between))
                seen["last" if told == goods[-1] else "stays" if told == state else "between"] += 1
        self.assertGreater(min(seen.values()), 20, seen)

    def test_the_example_and_ways_to_call(self):
        wide = Releases(example_42_wide())
        self.assertIsNone(call_alike(self, stands_for, wide, "b", 2, 1))
        self.assertEqual(call_alike(self, stands_for, wide, "a", 2, 1), ("x", "u"))
        self.assertEqual(stands_for(wide, "b", 1, 2), ("y", "v"))
        self.assertIsNone(stands_for(wide, "b", 1, 1))
        state = {"b": 1, "a": 1}
        told = call_alike(self, lasting, wide, state, [("b", "y", "u")])
        self.assertEqual(list(told.items()), [("a", 2), ("b", 2)])
        self.assertEqual(lasting(wide, state, [("a", "x", "u")]), {"a": 1, "b": 2})
        self.assertEqual(lasting(wide, state, ()), {"a": 2, "b": 2})
        self.assertIs(call_alike(self, served, wide, state, [("b", "y", "u"), ("a", "x", "u")]), True)
        self.assertIs(served(wide, state, [("b", "y", "v")]), False)
        self.assertIs(served(wide, state, []), True)
        # a state need not be good to serve
        self.assertIs(served(wide, {"a": 2, "b": 1}, [("a", "x", "v")]), True)


class TestErrorsOfClients(unittest.TestCase):
    def test_bad_clients(self):
        releases = Releases(example_42())
        state = {"a": 1, "b": 1}
        good = ("b", "y", "u")
        for function in (served, lasting):
            for thing in any_objects():
                if not isinstance(thing, (list, tuple)):
                    self.assertEqual(raised(function, releases, state, thing), ("BadClient", 0))
                self.assertEqual(raised(function, releases, state, [good, thing, 0]), ("BadClient", 1))
                for at in range(3):
                    self.assertEqual(raised(function, releases, state, [[*good[:at], thing, *good[at + 1:]]]),
                                     ("BadClient", 0))
            for thing in [good, as_lists(good), ("c", "y", "u"), ("b", "y"), ("b", "y", "u", "u"), "byu", ("B", "y", "u")]:
                self.assertEqual(raised(function, releases, state, (good, thing)), ("BadClient", 1), thing)

    def test_which_comes_first(self):
        releases = Releases(example_42())
        good, bad = {"a": 1, "b": 1}, {"a": 1, "b": 2}
        for thing in [*any_objects(), {"a": 1}]:
            self.assertEqual(raised(served, releases, thing, 0), ("BadState", thing))
            self.assertEqual(raised(lasting, releases, thing, 0), ("BadState", thing))
        self.assertEqual(raised(lasting, releases, bad, 0), ("BadClient", 0))
        self.assertEqual(raised(lasting, releases, bad, [("a", "x", "v")]), ("NotGood", bad))
        self.assertEqual(raised(lasting, releases, good, [("a", "x", "u"), ("a", "x", "v"), ("b", "q", "q")]),
                         ("NotServed", 1))

    def test_no_library_and_no_release(self):
        releases = Releases(example_42())
        for thing in [*any_objects(), "c"]:
            self.assertEqual(raised(stands_for, releases, thing, 0, 0), ("NoLibrary", thing))
            if isinstance(thing, bool) or thing not in (1, 2):
                self.assertEqual(raised(stands_for, releases, "a", thing, 0), ("NoRelease", thing))
                self.assertEqual(raised(stands_for, releases, "a", 1, thing), ("NoRelease", thing))
        self.assertEqual(raised(stands_for, releases, "a", 3, 4), ("NoRelease", 3))


def is_served_by(change, node):
    return change[0] < node <= change[1]


class TestNodes(unittest.TestCase):
    def test_least_nodes_and_those_apart(self):
        dice = random.Random(4)
        for _ in range(300):
            changes = []
            for _ in range(dice.randint(0, 6)):
                first = dice.randint(1, 7)
                changes.append((first, dice.randint(first + 1, 8)))
            wanted = None
            for many in range(8):
                enough = [nodes for nodes in itertools.combinations(range(1, 10), many)
                          if all(any(is_served_by(change, node) for node in nodes) for change in changes)]
                if enough:
                    wanted = list(max(enough))
                    break
            self.assertEqual(least_nodes(changes), wanted)
            told = apart(changes)
            self.assertEqual(told, sorted(set(told)))
            self.assertEqual(len(told), len(wanted))
            for one, other in itertools.combinations(told, 2):
                self.assertFalse(any(is_served_by(changes[one], node) and is_served_by(changes[other], node)
                                     for node in range(10)))

    def test_the_example_and_ways_to_call(self):
        changes = [(1, 4), (2, 3), (5, 7)]
        self.assertEqual(call_alike(self, least_nodes, changes), [3, 7])
        self.assertEqual(call_alike(self, apart, changes), [1, 2])
        self.assertEqual(least_nodes([]), [])
        self.assertEqual(apart(()), [])
        # the ends: a node at j serves, one at i does not
        self.assertEqual(least_nodes([(1, 2), (2, 3)]), [2, 3])
        self.assertEqual(least_nodes([(1, 3), (2, 4)]), [3])
        self.assertEqual(least_nodes([(1, 2), (1, 2)]), [2])
        self.assertEqual(apart([(1, 2), (1, 2)]), apart([[1, 2], [1, 2]]))
        self.assertEqual(least_nodes([(10 ** 20, 10 ** 21)]), [10 ** 21])

    def test_bad_changes(self):
        for function in (least_nodes, apart):
            for thing in any_objects():
                if not isinstance(thing, (list, tuple)):
                    self.assertEqual(raised(function, thing), ("BadChange", 0))
                self.assertEqual(raised(function, [(1, 2), thing, 0]), ("BadChange", 1))
                if thing not in (1, 10 ** 30) or isinstance(thing, bool):
                    self.assertEqual(raised(function, [(1, 2), (thing, 10 ** 40), 0]), ("BadChange", 1))
                if thing != 10 ** 30:
                    self.assertEqual(raised(function, [(1, 2), (1, thing), 0]), ("BadChange", 1))
            for thing in [(2, 1), (1, 1), (0, 1), (-1, 2), (1,), (1, 2, 3), "12", (True, 2), (1, "2")]:
                self.assertEqual(raised(function, [(1, 2), (3, 5), thing]), ("BadChange", 2))


if __name__ == "__main__":
    unittest.main()
