"""Promise 39: links, and why bundles go together."""

import itertools
import random
import unittest

from linklines.bundles import ahead, bundles
from linklines.clients import lasting
from linklines.links import is_link, is_why, why
from linklines.releases import Releases
from linklines.states import good_above, upgraded
from tests.release_tools import (does_fit_any, example_42, example_42_wide, good_states, is_below, is_dead, steady_made)
from tests.tools import any_objects, as_lists, as_tuples, call_alike, raised


def is_plainly_a_link(made, library, n, other, m, reason):
    """Of numbers of releases that there are."""
    if reason[0] == "wants":
        pair = tuple(reason[1:])
        return (not is_dead(made, library, n) and (other, *pair) in made[library][n - 1][1]
                and not any(pair in tells for tells, _ in made[other][:m - 1]))
    if reason[0] == "wanted":
        pair = tuple(reason[1:])
        return (m > 1 and not is_dead(made, other, m - 1) and (library, *pair) in made[other][m - 2][1]
                and not any(pair in tells for tells, _ in made[library][n - 1:]))
    return (other == library and m == n + 1 and reason[1] in made and reason[1] != library
            and not does_fit_any(made, library, n, reason[1]))


def all_things_like_links(made):
    pairs = sorted({pair for kept in made.values() for tells, wants in kept
                    for pair in [*tells, *[triple[1:] for triple in wants]]})
    reasons = [*[(word, *pair) for word in ("wants", "wanted") for pair in pairs],
               *[("dead", word) for word in [*made, "no"]]]
    for library, other in itertools.product(made, repeat=2):
        for n in range(1, len(made[library]) + 1):
            for m in range(1, len(made[other]) + 1):
                for reason in reasons:
                    yield (library, n, other, m, reason)


def closed(state, links):
    state = dict(state)
    for _ in range(60):
        for library, n, other, m, _ in links:
            if state[library] >= n:
                state[other] = max(state[other], m)
    return state


def shows(made, state, goal, number, links):
    """Whether links show that a bundle goes together, by the words of the document."""
    packs = bundles(Releases(made), state, goal)
    for pack in packs[:number]:
        state = {**state, **{word: change[1] for word, change in pack.items()}}
    for word in packs[number]:
        reached = closed({**state, word: state[word] + 1}, links)
        if any(reached[other] != change[1] for other, change in packs[number].items()):
            return False
    return True


class TestLinks(unittest.TestCase):
    def test_what_is_a_link(self):
        seen = {}
        for made in steady_made(60, most=3):
            releases = Releases(made)
            for thing in all_things_like_links(made):
                told = is_link(releases, thing)
                self.assertIs(told, is_plainly_a_link(made, *thing), (made, thing))
                key = (thing[4][0], told)
                seen[key] = seen.get(key, 0) + 1
        self.assertEqual(len(seen), 6)
        self.assertGreater(min(seen.values()), 10, seen)

    def test_links_hold_in_all_good_states(self):
        for made in steady_made(16, most=3):
            releases = Releases(made)
            goods = good_states(made)
            for thing in all_things_like_links(made):
                if is_link(releases, thing):
                    library, n, other, m, _ = thing
                    self.assertTrue(all(good[other] >= m for good in goods if good[library] >= n))

    def test_any_objects_and_things_that_are_nearly_links(self):
        releases = Releases(example_42())
        good = ("a", 2, "b", 2, ("wants", "y", "v"))
        self.assertIs(is_link(releases, good), True)
        self.assertIs(is_link(releases, as_lists(good)), True)
        self.assertIs(is_link(releases=releases, thing=good), True)
        for thing in any_objects():
            self.assertIs(is_link(releases, thing), False)
            for at in range(5):
                spoilt = [*good[:at], thing, *good[at + 1:]]
                # a link may also reach less far than it could
                self.assertIs(is_link(releases, spoilt), spoilt[3] == 1 and spoilt[3] is not True, spoilt)
            for at in range(3):
                self.assertIs(is_link(releases, [*good[:4], [*good[4][:at], thing, *good[4][at + 1:]]]), False)
            self.assertIs(is_link(releases, ("a", 1, "a", 2, ("dead", thing))), False)
        for thing in [good[:4], (*good, 1), ("a", 3, "b", 2, good[4]), ("a", 2, "b", 3, good[4]), ("a", 0, "b", 2, good[4]),
                      ("a", 2, "b", 2, ("want", "y", "v")), ("b", 2, "a", 2, ("want", "y", "u")),
                      ("a", 2, "b", 2, ("wants", "y")), ("a", 2, "b", 2, ("wants", "y", "v", "v")),
                      ("a", 2, "b", 2, "wants"), ("c", 2, "b", 2, good[4]), ("a", 2, "c", 2, good[4]),
                      ("b", 2, "a", 2, good[4]), ("a", 1, "b", 2, good[4]), ("a", 2, "b", 2, ("dead", "b"))]:
            self.assertIs(is_link(releases, thing), False, thing)

    def test_links_of_dead_ones(self):
        made = {"a": [([], []), ([], [("b", "no", "no"), ("b", "y", "u")]), ([], []), ([], [("b", "no", "no")])],
                "b": [([("y", "u")], []), ([], [])]}
        releases = Releases(made)
        self.assertIs(is_link(releases, ("a", 2, "a", 3, ("dead", "b"))), True)
        for thing in [("a", 2, "a", 3, ("dead", "b", "b")), ("a", 2, "a", 3, ("died", "b")), ("a", 2, "a", 3, ("dead",)),
                      ("a", 1, "a", 2, ("dead", "b")), ("a", 2, "a", 4, ("dead", "b")), ("a", 3, "a", 4, ("dead", "b")),
                      ("a", 4, "a", 5, ("dead", "b")), ("a", 2, "a", 3, ("dead", "a")), ("a", 2, "b", 3, ("dead", "b")),
                      ("a", 2, "a", 2, ("dead", "b")), ("a", 2, "a", 3, ("dead", "c")), ("b", 2, "a", 3, ("dead", "b")),
                      # what a dead one wants tells nothing
                      ("a", 2, "b", 1, ("wants", "y", "u")), ("b", 2, "a", 3, ("wanted", "y", "u")),
                      ("b", 1, "a", 3, ("wanted", "no", "no"))]:
            self.assertIs(is_link(releases, thing), False, thing)

    def test_a_link_need_not_reach_as_far_as_it_could(self):
        made = {"a": [([], [("b", "y", "u")])], "b": [([], []), ([], []), ([("y", "u")], [])]}
        for m in (1, 2, 3):
            self.assertIs(is_link(Releases(made), ("a", 1, "b", m, ("wants", "y", "u"))), True)
        made = {"a": [([], [("b", "y", "u")]), ([], [])], "b": [([("y", "u")], []), ([], []), ([], [])]}
        for n in (2, 3):
            self.assertIs(is_link(Releases(made), ("b", n, "a", 2, ("wanted", "y", "u"))), True)
        self.assertIs(is_link(Releases(made), ("b", 1, "a", 2, ("wanted", "y", "u"))), False)
        self.assertIs(is_link(Releases(made), ("b", 2, "a", 1, ("wanted", "y", "u"))), False)


class TestWhy(unittest.TestCase):
    def test_each_bundle_has_links_that_show_it(self):
        seen = {"wants": 0, "wanted": 0, "dead": 0, "empty": 0, "fewer": 0}
        dice = random.Random(3)
        for made in steady_made(150):
            releases = Releases(made)
            goods = good_states(made)
            if not goods or not is_below(goods[0], goods[-1]):
                continue
            state, goal = goods[0], goods[-1]
            for number in range(len(bundles(releases, state, goal))):
                told = why(releases, state, goal, number)
                self.assertEqual(told, why(releases, state, goal, number))
                self.assertTrue(all(is_link(releases, link) for link in told))
                self.assertTrue(shows(made, state, goal, number, told))
                self.assertIs(is_why(releases, state, goal, number, told), True)
                for link in told:
                    seen[link[4][0]] += 1
                seen["empty"] += not told
                part = [link for link in told if dice.random() < 0.6]
                dice.shuffle(part)
                wanted = shows(made, state, goal, number, part)
                self.assertIs(is_why(releases, state, goal, number, part), wanted)
                seen["fewer"] += not wanted
        self.assertGreater(min(seen.values()), 5, seen)

    def test_more_links_than_are_needed(self):
        for made in steady_made(16, most=3):
            releases = Releases(made)
            goods = good_states(made)
            if not goods or not is_below(goods[0], goods[-1]):
                continue
            every = [thing for thing in all_things_like_links(made) if is_link(releases, thing)]
            for number in range(len(bundles(releases, goods[0], goods[-1]))):
                self.assertIs(is_why(releases, goods[0], goods[-1], number, [*every, *every]), True)

    def test_the_example(self):
        releases = Releases(example_42())
        low, high = {"a": 1, "b": 1}, {"b": 2, "a": 2}
        links = [("a", 2, "b", 2, ("wants", "y", "v")), ("b", 2, "a", 2, ("wanted", "y", "u"))]
        self.assertEqual(call_alike(self, why, releases, low, high, 0), links)
        self.assertIs(call_alike(self, is_why, releases, low, high, 0, links), True)
        self.assertIs(is_why(releases, low, high, 0, as_tuples(links[::-1])), True)
        for thing in [links[:1], links[1:], [], *any_objects(), [*links, 0], [*links, ("a", 2, "b", 2, ("dead", "b"))]]:
            self.assertIs(is_why(releases, low, high, 0, thing), False, thing)

    def test_a_bundle_of_one_needs_no_link_for_one_step(self):
        wide = Releases(example_42_wide())
        low, high = {"a": 1, "b": 1}, {"a": 2, "b": 2}
        for number in (0, 1):
            self.assertEqual(why(wide, low, high, number), [])
            self.assertIs(is_why(wide, low, high, number, []), True)
            self.assertIs(is_why(wide, low, high, number, [0]), False)

    def test_at_the_limits(self):
        # six libraries of eight releases in a ring, each wanting what stands just beside it of the next two
        words, signs = "abcdef", "stuvwxyz"
        made = {}
        for at, word in enumerate(words):
            made[word] = []
            for number in range(8):
                beside = range(max(0, number - 1), min(8, number + 5))
                tells = [("p", signs[n]) for n in beside]
                wants = [(words[(at + 1) % 6], "p", signs[number])] + [(words[(at + 2) % 6], "p", signs[n])
                                                                      for n in list(beside)[:5] if n == number]
                made[word].append((tells, wants))
        releases = Releases(made)
        low, high = {word: 1 for word in words}, {word: 8 for word in words}
        packs = bundles(releases, low, high)
        self.assertGreater(len(packs), 7)
        self.assertEqual(good_above(releases, {**low, "c": 8})["c"], 8)
        self.assertEqual(upgraded(releases, low, high), high)
        self.assertEqual(lasting(releases, low, [(word, "p", "t") for word in words]), {word: 3 for word in words})
        for number in range(len(packs)):
            told = why(releases, low, high, number)
            self.assertIs(is_why(releases, low, high, number, told), True)
        self.assertTrue(all(one < other for one, other in ahead(releases, low, high)))

    def test_no_bundle(self):
        wide = Releases(example_42_wide())
        low, high = {"a": 1, "b": 1}, {"a": 2, "b": 2}
        for thing in [*any_objects(), 2, -1]:
            if thing not in (0, 1) or isinstance(thing, bool):
                self.assertEqual(raised(why, wide, low, high, thing), ("NoBundle", thing))
                self.assertEqual(raised(is_why, wide, low, high, thing, None), ("NoBundle", thing))
        self.assertEqual(raised(why, wide, low, low, 0), ("NoBundle", 0))


if __name__ == "__main__":
    unittest.main()
