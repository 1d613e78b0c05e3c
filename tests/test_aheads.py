"""Promises 29, 30 and 34: what stands ahead, first ones."""

import itertools
import unittest

from linklines.aheads import company_ahead, company_for, first_ones, surely_ahead, surely_there
from linklines.companies import row
from linklines.objects import Library
from linklines.stores import Store
from tests.company_tools import WORDS, all_rows, example_34, grounds, in_order, plain_first, plain_holes, plain_row
from tests.tools import any_objects, call_alike, obj, raised


def is_ahead(loaded, one, other):
    """Whether one stands in the row, and not behind other or in its place."""
    return one in loaded and one != other and (other not in loaded or loaded.index(one) < loaded.index(other))


class TestAheads(unittest.TestCase):
    def test_against_all_companies(self):
        sure = unsure = 0
        for store, needs in grounds(70):
            loaded = [there for _, there in all_rows(store, needs, "z")]
            always = [library for library in WORDS if all(library in there for there in loaded)]
            self.assertEqual(call_alike(self, surely_there, store, needs), always)
            for one, other in itertools.product(WORDS, repeat=2):
                told = call_alike(self, surely_ahead, store, needs, one, other)
                self.assertIs(told, all(is_ahead(there, one, other) for there in loaded))
                company = call_alike(self, company_ahead, store, needs, one, other)
                some = any(one in there and not is_ahead(there, other, one) for there in loaded)
                self.assertEqual(company is not None, some)
                if company is not None:
                    there = row(store, needs, company)
                    self.assertIn(one, there)
                    self.assertFalse(is_ahead(there, other, one))
                sure += told
                unsure += not told
        self.assertGreater(min(sure, unsure), 50)

    def test_one_company_decides(self):
        for store, needs in grounds(70):
            holes = plain_holes(needs)
            for one, other in itertools.product(WORDS, repeat=2):
                company = [((), (other,)), *[((), ())] * (len(holes) - 1)] if holes else []
                there = plain_row(store, needs, company)
                self.assertIs(surely_ahead(store, needs, one, other), is_ahead(there, one, other))

    def test_no_library(self):
        store = Store({"a": Library([]), "o": obj("a")})
        for function in (surely_ahead, company_ahead):
            for thing in [*any_objects(), "o", "lacks"]:
                self.assertEqual(raised(function, store, [], thing, 0), ("NoLibrary", thing))
                self.assertEqual(raised(function, store, [], "a", thing), ("NoLibrary", thing))

    def test_no_hole(self):
        store = example_34()
        self.assertEqual(company_ahead(store, ["a"], "a", "b"), [])
        self.assertEqual(company_ahead(store, ["a"], "a", "a"), [])
        self.assertIsNone(company_ahead(store, ["a"], "b", "a"))
        self.assertIsNone(company_ahead(store, ["a"], "c", "a"))
        self.assertIs(surely_ahead(store, ["a"], "b", "c"), True)

    def test_the_example(self):
        store, needs = example_34(), ["a", [], "c"]
        self.assertIs(surely_ahead(store, needs, "a", "c"), True)
        self.assertIs(surely_ahead(store, needs, "c", "b"), True)
        self.assertIs(surely_ahead(store, needs, "b", "c"), False)
        self.assertEqual(surely_there(store, needs), ["a", "b", "c"])


class TestFirstOnes(unittest.TestCase):
    def test_against_all_companies(self):
        kinds = {}
        for store, needs in grounds(60):
            rows = all_rows(store, needs, "m")
            for there in ([], ["a"], ["c", "b"]):
                found = {}
                for company, loaded in rows:
                    if all(library in loaded for library in there):
                        found.setdefault(plain_first(store, loaded, company, "m"), company)
                told = call_alike(self, first_ones, store, needs, "m", there)
                self.assertEqual(told, in_order(list(found)))
                for thing in [*WORDS, 0, 1, 2, None]:
                    company = call_alike(self, company_for, store, needs, "m", there, thing)
                    self.assertEqual(company is not None, thing in told)
                    if company is not None:
                        self.check_company(store, needs, there, thing, company)
                kinds[len(told)] = kinds.get(len(told), 0) + 1
        self.assertGreater(min(kinds[many] for many in (0, 1, 2, 3)), 10)

    def check_company(self, store, needs, there, thing, company):
        loaded = row(store, needs, company)
        self.assertTrue(all(library in loaded for library in there))
        self.assertEqual(plain_first(store, loaded, company, "m"), thing)

    def test_facts_where_there_is_a_hole(self):
        for store, needs in grounds(60):
            holes = plain_holes(needs)
            if not holes:
                continue
            tellers = [library for library in WORDS if "m" in store.file(library).tells()]
            for there in ([], ["b"]):
                libraries = [library for library in tellers
                             if not any(surely_ahead(store, needs, other, library) for other in tellers)]
                places = [at for at, thing in enumerate(needs) if not isinstance(thing, str)]
                free = [number for number, at in enumerate(places) if "m" not in needs[at]
                        and not any(library in needs[:at] for library in tellers)]
                needed = [*surely_there(store, needs), *there]
                for library in needed:
                    needed.extend(word for word in store.file(library).needs() if word not in needed)
                nobody = [] if set(needed) & set(tellers) else [None]
                self.assertEqual(first_ones(store, needs, "m", there), [*libraries, *free, *nobody])

    def test_there_may_be_left_out(self):
        store, needs = example_34(), ["a", [], "c"]
        self.assertEqual(first_ones(store, needs, "m"), first_ones(store, needs, "m", ()))
        self.assertEqual(first_ones(store=store, needs=needs, name="m"), ["c", 0])

    def test_any_thing_can_be_asked_for(self):
        store, needs = example_34(), [[], [], "a"]
        for thing in [*any_objects(), "lacks", 2, (0,)]:
            told = company_for(store, needs, "m", [], thing)
            none = not (thing is not True and thing is not False and thing in (0, 1))
            self.assertEqual(told is None, none, thing)
        self.assertIsNone(company_for(store, [[], []], "z", [], True))
        self.assertIsNotNone(company_for(store, [[], []], "z", [], None))
        self.assertIsNotNone(company_for(store, [[], []], "z", [], 1))
        self.assertEqual(company_for(store, ["a"], "m", [], "b"), [])

    def test_errors(self):
        store = Store({"a": Library([]), "b": Library([]), "o": obj("a")})
        for function, *more in ((first_ones,), (company_for, 0)):
            for thing in any_objects():
                self.assertEqual(raised(function, store, [], thing, [0], *more), ("BadName", thing))
            for thing in [*any_objects(), "a", "o", "lacks"]:
                self.assertEqual(raised(function, store, [], "m", ["b", "a", thing], *more), ("BadThere", 2))
                if not isinstance(thing, (list, tuple)):
                    self.assertEqual(raised(function, store, [], "m", thing, *more), ("BadThere", 0))

    def test_the_example(self):
        store = example_34()
        self.assertEqual(first_ones(store, ["a", [], "c"], "m"), ["c", 0])
        self.assertEqual(first_ones(store, ["a", [], "c"], "n"), ["a"])
        self.assertEqual(first_ones(store, [[], "a"], "m"), ["b", "c", 0])
