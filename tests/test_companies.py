"""Promises 27, 28 and 34: needs, company, rows, what references are bound to."""

import random
import unittest

from linklines.aheads import company_ahead, company_for, first_ones, surely_ahead, surely_there
from linklines.companies import bound, row
from linklines.meetings import binding, company_where, meeting, promises
from linklines.objects import Library
from linklines.stores import Store
from tests.company_tools import WORDS, all_companies, all_references, example_34, grounds, plain_binding
from tests.company_tools import plain_row
from tests.tools import any_objects, call_alike, obj, raised

# Each function of the section with arguments that are all bad, behind store and needs.
ALL = [(row, 0), (bound, 0), (surely_there,), (surely_ahead, 0, 0), (company_ahead, 0, 0), (first_ones, 0, 0),
       (company_for, 0, 0, 0), (binding, 0), (meeting, 0, 0), (company_where, 0, 0, 0), (promises, 0, 0, 0)]


class TestCompanies(unittest.TestCase):
    def test_rows_and_bindings_against_a_plain_reader(self):
        for store, needs in grounds(60):
            dice = random.Random(str(needs))
            companies = all_companies(needs, ["m", "n"])
            for company in dice.sample(companies, min(12, len(companies))):
                loaded = call_alike(self, row, store, needs, company)
                self.assertEqual(loaded, plain_row(store, needs, company))
                expected = []
                for library in loaded:
                    for reference in all_references(store):
                        if reference[0] == library:
                            expected.append((reference, plain_binding(store, loaded, company, reference)))
                self.assertEqual(call_alike(self, bound, store, needs, company), expected)

    def test_needs_go_level_by_level(self):
        store = Store({"a": Library([], [], [], ["c", "d"]), "b": Library([], [], [], ["e", "a"]),
                       "c": Library([], [], [], ["b"]), "d": Library([]), "e": Library([], [], [], ["e"])})
        self.assertEqual(row(store, ["b", ["x"], "d"], [([], ["c"])]), ["b", 0, "d", "e", "a", "c"])
        self.assertEqual(row(store, [[], "a", []], [(["x"], ["e"]), ([], ["c", "e"])]), [0, "a", 1, "e", "c", "d", "b"])
        self.assertEqual(row(store, [], []), [])

    def test_own_first_and_asks(self):
        store = Store({"a": Library(["m"]), "b": Library(["m"], ["m", "z"], ["n"], [], True), "c": Library(["m"], ["m"])})
        self.assertEqual(bound(store, ["a", "b", [], "c"], [(["n", "m"], [])]),
                         [(("b", "m"), "b"), (("b", "n"), 0), (("b", "z"), None), (("c", "m"), "a")])

    def test_lacking_comes_ahead_of_all_else(self):
        store = Store({"b": Library([], [], [], ["c", "o", "z"]), "c": Library([], [], [], ["y"]), "o": obj("a")})
        for function, *more in ALL:
            self.assertEqual(raised(function, store, 0, *more), ("Lacking", "o"))
        store = Store({"b": Library([], [], [], ["c"]), "c": Library([], [], [], ["y", "x"]), "a": Library([])})
        self.assertEqual(raised(row, store, [], []), ("Lacking", "y"))

    def test_bad_places(self):
        store = Store({"a": Library([]), "b": Library([]), "o": obj("a")})
        for function, *more in ALL:
            for thing in [*any_objects(), "o", "lacks", "a", [["x"]], ["x", "Y"], ("x", 1)]:
                if thing != [] and thing != ():
                    self.assertEqual(raised(function, store, ["a", thing], *more), ("BadPlaces", 1))
                if not isinstance(thing, (list, tuple)):
                    self.assertEqual(raised(function, store, thing, *more), ("BadPlaces", 0))
            self.assertEqual(raised(function, store, ["a", [], [], "b", "b", 0], *more), ("BadPlaces", 4))
        self.assertIsNone(raised(row, store, ["a", ["x", "x"], (), "b"], [([], []), ([], [])]))

    def test_bad_company(self):
        store = Store({"a": Library([]), "b": Library([]), "o": obj("a")})
        needs = ["a", ["x"], []]
        good = (["y"], ["a", "b"])
        bad = [*any_objects(), (["y"],), (["y"], [], []), ("y", []), (["y", "y"], []), (["Y"], []), ([], ["a", "a"]),
               ([], ["o"]), ([], ["lacks"]), ([], "a"), ([], [["a"]]), ([None], [])]
        for function in (row, bound):
            for thing in bad:
                self.assertEqual(raised(function, store, needs, [good, thing, 0]), ("BadCompany", 1))
                self.assertEqual(raised(function, store, needs, [good, good, thing]), ("BadCompany", 2))
                if not isinstance(thing, (list, tuple)):
                    self.assertEqual(raised(function, store, needs, thing), ("BadCompany", 0))
            self.assertEqual(raised(function, store, needs, [(["y", "x"], []), good]), ("BadCompany", 0))
            self.assertIsNone(raised(function, store, needs, [good, (["y", "x"], [])]))
            for many in (0, 1, 3, 4):
                self.assertEqual(raised(function, store, needs, [good] * many), ("BadCompany", many))
            self.assertEqual(raised(function, store, [], [good]), ("BadCompany", 1))

    def test_the_example(self):
        store = example_34()
        self.assertEqual(row(store, ["a", [], "c"], [([], [])]), ["a", 0, "c", "b"])
        self.assertIn((("c", "m"), "c"), bound(store, ["a", [], "c"], [([], [])]))
        self.assertEqual(WORDS, store.files())
