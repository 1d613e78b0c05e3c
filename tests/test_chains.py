"""Promises 21 and 26: chains, words, places."""

import itertools
import unittest

from linklines.chains import chains, places_of, word_of
from linklines.mains import came
from linklines.objects import Archive
from linklines.stores import Store
from tests.tools import all_mains, any_objects, call_alike, obj, raised, random_clear_archives


def example_26():
    return Store({"one": Archive([("p", obj("a", "c")), ("q", obj("b", "a"))]), "two": Archive([("r", obj("c", "b"))])})


def plain_tellers(store, archives):
    return {name: ((archive, word), held) for archive in archives for word, held in store.file(archive).members()
            for name in held.names()}


def is_plain_chain(tellers, names):
    if not all(name in tellers for name in names) or len({tellers[name][0] for name in names}) < len(names):
        return False
    for at, name in enumerate(names):
        wants = tellers[name][1].wants()
        if at + 1 < len(names) and names[at + 1] not in wants:
            return False
        if any(behind in wants for behind in names[at + 2:]):
            return False
    return True


def plain_chains(store, archives, names="abcd"):
    tellers = plain_tellers(store, archives)
    return [row for many in range(1, len(names) + 1) for row in itertools.permutations(names, many)
            if is_plain_chain(tellers, row)]


def plain_places(store, row, chain):
    """The first places by going through all rows of places."""
    tellers = plain_tellers(store, [archive for name in row for archive in as_archives(store, name)]
                            + [name for name in store.files() if isinstance(store.file(name), Archive)])
    for places in itertools.product(range(len(row)), repeat=len(chain)):
        if list(places) == sorted(places) and all(
                tellers[name][0][0] in as_archives(store, row[at]) for name, at in zip(chain, places)):
            return list(places)
    return None


def as_archives(store, name):
    return store.file(name) if isinstance(store.file(name), tuple) else (name,)


class TestChains(unittest.TestCase):
    def test_all_chains_their_words_and_places(self):
        longest = lacking = 0
        for seed in range(80):
            made = random_clear_archives(seed)
            store = Store({**made, "group": ["two", "one"]})
            for row in (["one", "two"], ["two", "group"], ["one"], ["two", "one", "two"], ["group"], []):
                archives = sorted({archive for name in row for archive in as_archives(store, name)})
                told = call_alike(self, chains, store, row)
                self.assertEqual(told, plain_chains(store, archives))
                tellers = plain_tellers(store, archives)
                for chain in told:
                    longest = max(longest, len(chain))
                    word = [archive for archive, _ in itertools.groupby(tellers[name][0][0] for name in chain)]
                    self.assertEqual(call_alike(self, word_of, store, row, chain), word)
                    places = call_alike(self, places_of, store, row, chain)
                    self.assertEqual(places, plain_places(store, row, chain))
                    lacking += places is None
        self.assertGreater(longest, 3)
        self.assertGreater(lacking, 30)

    def test_bad_chains(self):
        store = example_26()
        good = chains(store, ["one", "two"])
        for function in (word_of, places_of):
            for thing in [*any_objects(), "a", ["x"], ["a", "b"], ["a", ["c"]], ["a", "c", "b", "a"], ("a", None), ["a", "a"]]:
                self.assertEqual(raised(function, store, ["one", "two"], thing), ("BadChain", thing))
            for many in range(1, 4):
                for row in itertools.permutations("abcx", many):
                    self.assertEqual(raised(function, store, ["one", "two"], row) is None, row in good)
            self.assertEqual(raised(function, store, ["one"], ["c"]), ("BadChain", ["c"]))

    def test_whatever_is_no_chain_is_refused(self):
        for seed in range(60):
            store = Store(random_clear_archives(seed))
            row = ["one", "two"]
            good = chains(store, row)
            for many in range(1, 5):
                for names in itertools.product("abcdx", repeat=many):
                    error = None if names in good else ("BadChain", names)
                    self.assertEqual(raised(word_of, store, row, names), error)

    def test_one_member_stands_just_once_in_a_chain(self):
        store = Store({"one": Archive([("p", obj("ab", "c")), ("q", obj("c", "b"))])})
        self.assertEqual(chains(store, ["one"]), [("a",), ("b",), ("c",), ("a", "c"), ("b", "c"), ("c", "b")])

    def test_a_member_comes_exactly_along_a_chain(self):
        for seed in range(60):
            store = Store({**random_clear_archives(seed), "group": ["one", "two"]})
            for row in (["one", "two"], ["group", "one"], ["two", "one", "two"], ["two"]):
                archives = sorted({archive for name in row for archive in as_archives(store, name)})
                tellers = plain_tellers(store, archives)
                had_chains = [chain for chain in chains(store, row) if places_of(store, row, chain) is not None]
                for wants, has in all_mains("abcdx"):
                    expected = {tellers[chain[-1]][0] for chain in had_chains
                                if chain[0] in wants and not set(chain) & set(has)}
                    self.assertEqual(came(store, row, wants, has), sorted(expected))

    def test_the_example(self):
        store = example_26()
        told = chains(store, ["one", "two"])
        self.assertEqual(told, [("a",), ("b",), ("c",), ("a", "c"), ("b", "a"), ("c", "b"), ("a", "c", "b"),
                                ("b", "a", "c"), ("c", "b", "a")])
        self.assertEqual(word_of(store, ["one", "two"], ("a", "c", "b")), ["one", "two", "one"])
        self.assertIsNone(places_of(store, ["one", "two"], ("a", "c", "b")))
        self.assertEqual(places_of(store, ["one", "two"], ("b", "a", "c")), [0, 0, 1])
