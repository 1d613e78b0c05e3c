"""Promises 22, 23 and 26: rows for all mains, safe rows."""

import itertools
import unittest

from linklines.chains import chains, places_of, word_of
from linklines.mains import came, face
from linklines.objects import Archive
from linklines.rows import once, ring_against, rows_part, unsafe_main
from linklines.stores import Store
from tests.test_chains import example_26
from tests.tools import all_mains, call_alike, obj, random_clear_archives


def parting_mains(store, one, other, names="abcdx"):
    return [main for main in all_mains(names) if face(store, one, *main) != face(store, other, *main)]


class TestRowsForAllMains(unittest.TestCase):
    def test_against_all_mains(self):
        parted = alike = 0
        for seed in range(15):
            store = Store({**random_clear_archives(seed), "group": ["one", "two"]})
            rows = [[], ["one"], ["one", "two"], ["two", "one"], ["group"], ["one", "two", "one"], ["group", "two"]]
            for one, other in itertools.combinations(rows, 2):
                told = call_alike(self, rows_part, store, one, other)
                self.assertEqual(told is None, not parting_mains(store, one, other))
                self.check_main(store, one, other, told)
                self.check_chains(store, one, other, told)
                parted += told is not None
                alike += told is None
        self.assertGreater(min(parted, alike), 30)

    def check_main(self, store, one, other, told):
        if told is not None:
            wants, has = told
            self.assertEqual(len(wants), 1)
            self.assertEqual(list(has), sorted(has))
            self.assertNotEqual(face(store, one, wants, has)[2], face(store, other, wants, has)[2])

    def check_chains(self, store, one, other, told):
        have = [[chain for chain in chains(store, [*row, *further])
                 if places_of(store, [*row, *further], chain) is not None
                 and max(places_of(store, [*row, *further], chain)) < len(row)]
                for row, further in ((one, other), (other, one))]
        self.assertEqual(told is None, have[0] == have[1])


    def test_what_the_main_has_keeps_other_chains_away(self):
        # d comes by way of c in both rows, so a main that wants a has to have c
        store = Store({"one": Archive([("p", obj("a", "bc"))]), "two": Archive([("p", obj("b", "d"))]),
                       "three": Archive([("p", obj("c", "d"))]), "four": Archive([("p", obj("d"))])})
        one, other = ["one", "two", "three", "four"], ["one", "three", "four", "two"]
        self.assertEqual(face(store, one, ["a"], []), face(store, other, ["a"], []))
        told = rows_part(store, one, other)
        self.assertNotEqual(face(store, one, *told)[2], face(store, other, *told)[2])
        told = unsafe_main(store, other)
        self.assertNotEqual(face(store, one, *told)[2], face(store, other, *told)[2])
        self.assertIsNone(unsafe_main(store, one))

    def test_a_chain_that_one_row_lacks_gives_a_main(self):
        many = 0
        for seed in range(60):
            store = Store(random_clear_archives(seed))
            one, other = ["one", "two", "one"], ["two", "one"]
            for chain in chains(store, other):
                beginnings = [places_of(store, other, chain[:many]) for many in range(1, len(chain))]
                if places_of(store, one, chain) is None or places_of(store, other, chain) is not None:
                    continue
                if None not in beginnings:
                    held = {name: held for word in ("one", "two") for _, held in store.file(word).members()
                            for name in held.names()}
                    has = {want for name in chain[:-1] for want in held[name].wants()} - set(chain)
                    faces = [face(store, row, [chain[0]], sorted(has)) for row in (one, other)]
                    self.assertNotEqual(faces[0][2], faces[1][2])
                    many += 1
        self.assertGreater(many, 15)


class TestSafeRows(unittest.TestCase):
    def test_unsafe_mains(self):
        safe = unsafe = 0
        for seed in range(30):
            store = Store({**random_clear_archives(seed), "group": ["one", "two"]})
            for row in (["one", "two"], ["two", "one", "two"], ["group"], ["two"], []):
                archives = sorted({archive for name in row for archive in (["one", "two"] if name == "group" else [name])})
                grouped = Store({**{name: store.file(name) for name in store.files()}, "all": archives or ["one"]})
                behind = ["all"] if archives else []
                told = call_alike(self, unsafe_main, store, row)
                self.assertEqual(told is None, not parting_mains(grouped, row, behind))
                self.assertEqual(told is None, all(places_of(store, row, chain) for chain in chains(store, row)))
                if told is not None:
                    self.assertEqual(len(told[0]), 1)
                    self.assertEqual(list(told[1]), sorted(told[1]))
                    self.assertLess(set(came(grouped, row, *told)), set(came(grouped, behind, *told)))
                    self.assertNotEqual(face(grouped, row, *told)[2], face(grouped, behind, *told)[2])
                safe += told is None
                unsafe += told is not None
        self.assertGreater(min(safe, unsafe), 15)

    def test_once_and_rings(self):
        found = rings = longest = 0
        for seed in range(120):
            store = Store(random_clear_archives(seed, 3, "abcdef", 3))
            names = ["two", "three", "one"]
            told = call_alike(self, once, store, names)
            safe = [order for order in itertools.permutations(sorted(names)) if unsafe_main(store, order) is None]
            self.assertEqual(told, list(safe[0]) if safe else None)
            ring = call_alike(self, ring_against, store, names)
            self.assertEqual(told is None, ring is not None)
            if ring is not None:
                self.check_ring(store, names, ring)
                rings += 1
                longest = max(longest, len(ring))
            found += told is not None
        self.assertGreater(min(found, rings), 15)
        self.assertGreater(longest, 1)

    def check_ring(self, store, names, ring):
        for at, (ahead, behind, chain) in enumerate(ring):
            self.assertEqual(behind, ring[(at + 1) % len(ring)][0])
            word = word_of(store, names, chain)
            self.assertTrue(any(word[i] == ahead and word[k] == behind for i, k in
                                itertools.combinations(range(len(word)), 2)))
        pairs = {(word[i], word[k]) for word in [word_of(store, names, chain) for chain in chains(store, names)]
                 for i, k in itertools.combinations(range(len(word)), 2)}
        for many in range(1, len(ring)):
            for row in itertools.product(names, repeat=many):
                self.assertFalse(all((row[at], row[(at + 1) % many]) in pairs for at in range(many)))

    def test_a_ring_of_two_and_of_three(self):
        two = Store({"one": Archive([("p", obj("a", "b")), ("q", obj("d"))]),
                     "two": Archive([("p", obj("b")), ("q", obj("c", "d"))])})
        self.assertEqual(ring_against(two, ["one", "two"]), [("one", "two", ("a", "b")), ("two", "one", ("c", "d"))])
        self.assertIsNone(once(two, ["one", "two"]))
        three = Store({"one": Archive([("p", obj("a", "b")), ("q", obj("f"))]),
                       "two": Archive([("p", obj("b")), ("q", obj("c", "d"))]),
                       "three": Archive([("p", obj("d")), ("q", obj("e", "f"))])})
        self.assertEqual(len(ring_against(three, ["one", "two", "three"])), 3)
        self.assertIsNone(once(three, ["one", "two", "three"]))
        self.assertIsNone(ring_against(three, ["one", "two"]))

    def test_no_archives(self):
        store = example_26()
        self.assertEqual(once(store, []), [])
        self.assertIsNone(ring_against(store, []))
        self.assertIsNone(unsafe_main(store, []))

    def test_names_behind_one_another_as_often_as_the_longest_word_are_safe(self):
        for seed in range(60):
            store = Store(random_clear_archives(seed, 3, "abcdef", 3))
            names = ["two", "three", "one"]
            longest = max([0, *[len(word_of(store, names, chain)) for chain in chains(store, names)]])
            if longest:
                self.assertIsNone(unsafe_main(store, names * longest))

    def test_the_example(self):
        store = example_26()
        self.assertIsNone(once(store, ["one", "two"]))
        self.assertEqual(ring_against(store, ["one", "two"]), [("one", "one", ("a", "c", "b"))])
        self.assertIsNone(unsafe_main(store, ["one", "two", "one"]))
        self.assertEqual(unsafe_main(store, ["one", "two"]), (("c",), ()))
        face_of = [face(store, row, ["c"], []) for row in (["one", "two"], ["one", "two", "one"])]
        self.assertNotEqual(*face_of)
