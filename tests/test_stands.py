"""Promises 11, 12 and 18: stands of lines, all of them, outcomes."""

import random
import unittest

from linklines.objects import Archive, Library
from linklines.stands import least_line, outcome, outcomes, stand, stand_behind, stands
from linklines.stores import Store
from tests.tools import any_objects, call_alike, example_10, lines_up_to, obj, plain_outcome, plain_stand
from tests.tools import raised, random_store


def small_stores(many):
    """Stores with few stands, so that all lines of some length show them all; to half of the stands one goes far."""
    found = [example_10()]
    seed = 0
    while len(found) < many:
        store = random_store(seed, 3, "abc")
        longest = max(len(line) for line, _ in stands(store))
        if len(stands(store)) <= 16 and (2 if len(found) % 2 else 3) <= longest <= 4:
            found.append(store)
        seed += 1
    return found


class TestStands(unittest.TestCase):
    def test_the_stand_behind_a_line(self):
        store = example_10()
        self.assertEqual(stand(store, ["main", "one"]),
                         ((("main", None), ("one", "a"), ("one", "b")),
                          (("a", ("strong", ("one", "a"))), ("b", ("strong", ("one", "b"))),
                           ("main", ("strong", ("main", None)))), ()))
        libraries = Store({"l": Library(["b", "a"]), "k": Library(["c", "a"])})
        self.assertEqual(stand(libraries, ["k", "l"]), ((), (), (("a", "k"), ("b", "l"), ("c", "k"))))
        self.assertEqual(stand(store, []), ((), (), ()))

    def test_stands_and_outcomes_against_a_plain_reader(self):
        for seed in range(200):
            store = random_store(seed, 5)
            dice = random.Random(seed)
            for _ in range(8):
                line = [dice.choice(store.files()) for _ in range(dice.randint(0, 6))]
                self.assertEqual(stand(store, line), plain_stand(store, line))
                self.assertEqual(outcome(store, line), plain_outcome(store, line))

    def test_all_stands_with_their_first_lines(self):
        for store in small_stores(60):
            first, ends = {}, {}
            for line in lines_up_to(store.files(), 5):
                first.setdefault(plain_stand(store, line), line)
                ends.setdefault(plain_outcome(store, line), line)
            told = stands(store)
            self.assertEqual(told, [(line, there) for there, line in first.items()])
            self.assertEqual(outcomes(store), [(line, end) for end, line in ends.items()])
            numbers = {there: number for number, (_, there) in enumerate(told)}
            for number, (line, _) in enumerate(told):
                self.assertLess(len(line), len(told))
                for name in store.files():
                    there = numbers[plain_stand(store, [*line, name])]
                    self.assertEqual(stand_behind(store, number, name), there)

    def test_one_stand_has_one_outcome_and_one_future(self):
        for store in small_stores(25):
            by_stand = {}
            for line in lines_up_to(store.files(), 4):
                further = tuple(plain_outcome(store, [*line, *more]) for more in lines_up_to(store.files(), 2))
                self.assertEqual(by_stand.setdefault(stand(store, line), further), further)

    def test_least_lines(self):
        found = 0
        for store in small_stores(40):
            for ahead in lines_up_to(store.files(), 2):
                expected = [[*ahead, *more] for more in lines_up_to(store.files(), 4)
                            if plain_outcome(store, [*ahead, *more])[0] == "links"]
                told = call_alike(self, least_line, store, list(ahead))
                self.assertEqual(told, expected[0] if expected else None)
                found += told is not None and len(told) > len(ahead)
        self.assertGreater(found, 30)

    def test_errors(self):
        store = example_10()
        for function in (stand, outcome, least_line):
            for thing in [*any_objects(), "lacks"]:
                self.assertEqual(raised(function, store, ["main", thing]), ("BadLine", 1))
                if not isinstance(thing, (list, tuple)):
                    self.assertEqual(raised(function, store, thing), ("BadLine", 0))
        for thing in any_objects():
            if thing is True or thing is False or not isinstance(thing, int) or not 0 <= thing < 4:
                self.assertEqual(raised(stand_behind, store, thing, "lacks"), ("BadNumber", thing))
            self.assertEqual(raised(stand_behind, store, 3, thing), ("NoFile", thing))
        self.assertEqual(raised(stand_behind, store, 4, "main"), ("BadNumber", 4))
        self.assertIsNone(raised(stand_behind, store, 3, "main"))

    def test_lists_names_and_new_things(self):
        store = example_10()
        call_alike(self, stand, store, ["main", "one"])
        call_alike(self, outcome, store, ["main", "one"])
        call_alike(self, stands, store)
        call_alike(self, stand_behind, store, 0, "main")
        call_alike(self, outcomes, store)

    def test_a_store_without_files(self):
        store = Store({})
        self.assertEqual(stands(store), [((), ((), (), ()))])
        self.assertEqual(outcomes(store), [((), ("links", ()))])
        self.assertEqual(least_line(store, []), [])

    def test_the_example(self):
        store = example_10()
        self.assertEqual([line for line, _ in stands(store)], [(), ("main",), ("main", "one"), ("main", "one", "two")])
        self.assertEqual(outcomes(store)[:3], [((), ("links", ())), (("main",), ("missing", ("b",))),
                                               (("main", "one"), ("missing", ("c",)))])
        self.assertEqual(least_line(store, ["main"]), ["main", "one", "two"])

    def test_many_stands(self):
        files = {word: obj("x", word) for word in "abcdefg"}
        files["g"] = Archive([(word, obj(word)) for word in "abcdef"])
        told = stands(Store(files))
        self.assertGreater(len(told), 200)
        self.assertEqual(told[-1][1], plain_stand(Store(files), told[-1][0]))
