"""Promises 31, 32 and 34: to what references are bound, whether they meet, promises."""

import itertools
import unittest

from linklines.aheads import first_ones
from linklines.companies import bound, row
from linklines.meetings import binding, company_where, meeting, promises
from linklines.objects import Library
from linklines.stores import Store
from tests.company_tools import WORDS, all_references, all_rows, example_34, grounds, in_order, plain_binding
from tests.company_tools import plain_first, plain_holes
from tests.tools import any_objects, call_alike, obj, raised


def plain_meet(store, loaded, company, one, other):
    if one[1] != other[1]:
        return False
    things = [plain_binding(store, loaded, company, reference) for reference in (one, other)]
    return things[0] is not None and things[0] == things[1]


class TestMeetings(unittest.TestCase):
    def test_bindings_against_all_companies(self):
        sure = 0
        for store, needs in grounds(60):
            for reference in all_references(store):
                found = [plain_binding(store, loaded, company, reference)
                         for company, loaded in all_rows(store, needs, reference[1]) if reference[0] in loaded]
                told = call_alike(self, binding, store, needs, reference)
                self.assertEqual(told, in_order(found))
                sure += len(told) == 1
        self.assertGreater(sure, 30)

    def test_meetings_against_all_companies(self):
        counts = {}
        for store, needs in grounds(70):
            for one, other in itertools.product(all_references(store), repeat=2):
                met = [plain_meet(store, loaded, company, one, other)
                       for company, loaded in all_rows(store, needs, one[1])
                       if one[0] in loaded and other[0] in loaded]
                if not met:
                    self.assertEqual(raised(meeting, store, needs, one, other), ("NoRow",))
                    told = "no row"
                else:
                    told = meeting(store, needs, one, other)
                    self.assertEqual(told, "sure" if all(met) else "open" if any(met) else "never")
                counts[told] = counts.get(told, 0) + 1
                for is_met in (True, False):
                    company = call_alike(self, company_where, store, needs, one, other, is_met)
                    self.assertEqual(company is not None, is_met in met)
                    if company is not None:
                        loaded = row(store, needs, company)
                        self.assertTrue(one[0] in loaded and other[0] in loaded)
                        self.assertIs(plain_meet(store, loaded, company, one, other), is_met)
        self.assertGreater(min(counts[told] for told in ("sure", "open", "never", "no row")), 10)

    def test_two_not_bound_to_their_own_meet_exactly_where_somebody_tells_the_name(self):
        for store, needs in grounds(40):
            free = [reference for reference in all_references(store) if not (store.file(
                reference[0]).own_first() and reference[1] in store.file(reference[0]).tells())]
            for one, other in itertools.combinations(free, 2):
                if one[1] == other[1]:
                    for company, loaded in all_rows(store, needs, one[1])[:60]:
                        if one[0] in loaded and other[0] in loaded:
                            told = dict(bound(store, needs, company))
                            somebody = plain_first(store, loaded, company, one[1]) is not None
                            self.assertIs(told[one] is not None and told[one] == told[other], somebody)

    def test_errors(self):
        store = Store({"a": Library(["m"], ["n"], ["k"]), "b": Library(["m"]), "o": obj("a", "n")})
        good = ["a", "k"]
        bad = [*any_objects(), ("a",), ("a", "m"), ("b", "m"), ("o", "n"), ("a", ["n"]), ("lacks", "n"), ("a", "n", "n"),
               "an", (["a"], "n")]
        for thing in bad:
            self.assertEqual(raised(binding, store, [], thing), ("BadReference", thing))
            self.assertEqual(raised(meeting, store, [], thing, 0), ("BadReference", thing))
            self.assertEqual(raised(meeting, store, [], good, thing), ("BadReference", thing))
            self.assertEqual(raised(company_where, store, [], thing, 0, 0), ("BadReference", thing))
            self.assertEqual(raised(company_where, store, [], good, thing, 0), ("BadReference", thing))
            if not isinstance(thing, bool):
                self.assertEqual(raised(company_where, store, [], good, good, thing), ("BadMark", thing))
        self.assertEqual(raised(meeting, store, [], good, good), ("NoRow",))
        self.assertEqual(raised(meeting, store, ["b"], good, ("a", "n")), ("NoRow",))
        self.assertIsNone(company_where(store, ["b"], good, good, False))
        self.assertEqual(binding(store, ["b"], good), [])

    def test_lists_and_names(self):
        store = example_34()
        call_alike(self, meeting, store, [[], "a", "c"], ("c", "m"), ("c", "n"))


class TestPromises(unittest.TestCase):
    def test_against_all_promises(self):
        found = {}
        for store, needs in grounds(50):
            for there in ([], ["b"]):
                for library in WORDS:
                    told = call_alike(self, promises, store, needs, "m", there, library)
                    enough = self.lots_that_are_enough(store, needs, there, library)
                    self.assertEqual(told is None, not enough)
                    if told is not None:
                        self.assertIn(tuple(told), enough)
                        self.assertTrue(all(set(told) <= set(lot) for lot in enough))
                    firsts = first_ones(store, needs, "m", there)
                    others = [thing for thing in firsts if thing is None or isinstance(thing, str)]
                    self.assertEqual(told is None, others != [library])
                    key = None if told is None else len(told)
                    found[key] = found.get(key, 0) + 1
        self.assertGreater(min(found[key] for key in (None, 0, 1)), 10)

    def lots_that_are_enough(self, store, needs, there, library):
        """All lots of holes with whose promises the library is the only first one."""
        enough = []
        many = len(plain_holes(needs))
        for size in range(many + 1):
            for lot in itertools.combinations(range(many), size):
                holes = itertools.count()
                promised = [thing if isinstance(thing, str) else [*thing, *(["m"] if next(holes) in lot else [])]
                            for thing in needs]
                firsts = {plain_first(store, loaded, company, "m")
                          for company, loaded in all_rows(store, promised, "m")
                          if all(word in loaded for word in there)}
                if firsts == {library}:
                    enough.append(lot)
        return enough

    def test_errors(self):
        store = Store({"a": Library([]), "o": obj("a")})
        for thing in [*any_objects(), "o", "lacks"]:
            self.assertEqual(raised(promises, store, [], "m", [], thing), ("NoLibrary", thing))
        for thing in any_objects():
            self.assertEqual(raised(promises, store, [], thing, 0, 0), ("BadName", thing))
        self.assertEqual(raised(promises, store, [], "m", ["a", "a"], 0), ("BadThere", 1))

    def test_the_example(self):
        store = example_34()
        self.assertEqual(promises(store, ["a", [], "c"], "m", (), "c"), [0])
        self.assertIsNone(promises(store, [[], "a"], "m", (), "b"))
