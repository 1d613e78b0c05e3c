"""Promises 3 and 7: stores, groups and lines."""

import unittest

from linklines.objects import Archive, Library
from linklines.programs import linked, links
from linklines.stores import Store
from tests.tools import any_objects, example_10, obj, raised, spoil


def files():
    return {"ob": obj("a"), "lib": Library(["t"]), "group": ["two", "one", "two"], "one": Archive([]),
            "two": Archive([("m", obj("b"))])}


class TestStores(unittest.TestCase):
    def test_what_a_store_tells(self):
        store = Store(files())
        self.assertEqual(store.files(), ["group", "lib", "ob", "one", "two"])
        self.assertEqual(store.file("ob"), obj("a"))
        self.assertEqual(store.file(name="two"), Archive([("m", obj("b"))]))
        self.assertEqual(store.file("group"), ("two", "one", "two"))
        self.assertEqual(Store({}).files(), [])
        self.assertEqual(store, Store(files={**files(), "group": ("two", "one", "two")}))

    def test_copies_and_new_things(self):
        made = files()
        store = Store(made)
        made["group"].append("one")
        made["more"] = obj("")
        spoil(store.files())
        self.assertEqual(store, Store(files()))

    def test_no_file(self):
        store = Store(files())
        for thing in [*any_objects(), "lacks"]:
            self.assertEqual(raised(store.file, thing), ("NoFile", thing))

    def test_equality(self):
        store = Store(files())
        for other in [Store({**files(), "group": ["one", "two"]}), Store({**files(), "ob": obj("b")}), Store({}),
                      Store({**files(), "more": obj("")}), files(), *any_objects()]:
            self.assertFalse(store == other)

    def test_bad_files(self):
        for thing in any_objects():
            if not isinstance(thing, dict):
                self.assertEqual(raised(Store, thing), ("BadFiles", None))
        for key in (None, 1, True, "", "A", "a" * 9, ("a",)):
            self.assertEqual(raised(Store, {"ok": obj(""), key: obj("")}), ("BadFiles", key))
        sound = [thing for thing in any_objects() if isinstance(thing, (type(obj("")), Archive, Library))]
        for thing in any_objects():
            if thing not in sound:
                self.assertEqual(raised(Store, {"ok": obj(""), "b": thing, "a": 0}), ("BadFiles", "b"))
        for group in ([], ["lacks"], ["ob"], ["lib"], ["group"], ["one", "other"], ["one", ["two"]], ["one", None]):
            made = {**files(), "other": ["one"], "group": group}
            self.assertEqual(raised(Store, made), ("BadFiles", "group"))
        self.assertEqual(raised(Store, {"z": ["lacks"], "a": 0}), ("BadFiles", "z"))

    def test_bad_lines(self):
        store = example_10()
        for function in (linked, links):
            for thing in [*any_objects(), "lacks"]:
                self.assertEqual(raised(function, store, ["main", thing]), ("BadLine", 1))
                if not isinstance(thing, (list, tuple)):
                    self.assertEqual(raised(function, store, thing), ("BadLine", 0))
            self.assertEqual(raised(function, store, ["main", "main", "no", "lacks"]), ("BadLine", 2))
            self.assertEqual(raised(function, store, {"main": 0}), ("BadLine", 0))
