"""Promises 19 and 20: mains, faces, clear rows."""

import random
import unittest

from linklines.chains import chains, places_of, word_of
from linklines.mains import came, face, first_unclear
from linklines.objects import Archive, Library, Object
from linklines.rows import once, ring_against, rows_part, unsafe_main
from linklines.stores import Store
from tests.tools import all_mains, any_objects, call_alike, obj, plain_taken, raised, random_clear_archives
from tests.tools import random_archive


def plain_came(store, row, wants, has):
    """The members that come, and the main's object, by the plain reader."""
    main = Object({name: ("strong", None) for name in has}, wants)
    files = {name: store.file(name) for name in store.files()}
    return plain_taken(Store({**files, "themain": main}), ["themain", *row])[0]


def plain_face(store, row, wants, has):
    taken = plain_came(store, row, wants, has)
    told = {name for who, held, _ in taken if who[1] is not None for name in held.names()}
    strong = [name for _, held, _ in taken for name, worth in held.names().items() if worth[0] == "strong"]
    wanted = {name for _, held, _ in taken for name in held.wants()}
    return (tuple(sorted(told)), tuple(sorted(name for name in set(strong) if strong.count(name) > 1)),
            tuple(sorted(wanted - told - set(has))))


def some_store():
    return Store({"o": obj("a"), "l": Library(["a"]), "one": Archive([("p", obj("a", "b")), ("q", obj("c"))]),
                  "two": Archive([("p", obj("b", "c")), ("r", obj("de", "a"))]), "group": ["two", "one"]})


class TestMains(unittest.TestCase):
    def test_who_comes_and_the_face(self):
        store = some_store()
        self.assertEqual(came(store, ["two", "one"], ["d"], []), [("one", "p"), ("two", "r")])
        self.assertEqual(face(store, ["two", "one"], ["d"], []), (("a", "d", "e"), (), ("b",)))
        self.assertEqual(came(store, ["group"], ["d"], []), [("one", "p"), ("one", "q"), ("two", "p"), ("two", "r")])
        self.assertEqual(face(store, ["group"], ["d"], ["e", "a"]), (("d", "e"), ("e",), ()))
        self.assertEqual(face(store, [], ["d"], ["e"]), ((), (), ("d",)))
        self.assertEqual(face(store, ["one"], [], ["a"]), ((), (), ()))

    def test_against_a_plain_reader(self):
        for seed in range(60):
            dice = random.Random(seed)
            names = list("abcd")
            store = Store({"one": random_archive(dice, names), "two": random_archive(dice, names),
                           "group": ["one", "two"]})
            row = [dice.choice(store.files()) for _ in range(dice.randint(0, 4))]
            for wants, has in all_mains(names):
                told = came(store, row, wants, has)
                self.assertEqual(told, sorted(who for who, _, _ in plain_came(store, row, wants, has) if who[1]))
                self.assertEqual(face(store, row, wants, has), plain_face(store, row, wants, has))

    def test_rows(self):
        store = some_store()
        functions = [(came, [], []), (face, [], []), (first_unclear,), (chains,), (word_of, 0), (places_of, 0),
                     (rows_part, [0]), (unsafe_main,)]
        for function, *more in functions:
            for thing in [*any_objects(), "o", "l", "lacks"]:
                self.assertEqual(raised(function, store, ["one", thing], *more), ("BadRow", 1))
                if not isinstance(thing, (list, tuple)):
                    self.assertEqual(raised(function, store, thing, *more), ("BadRow", 0))
        for function in (once, ring_against):
            for thing in [*any_objects(), "o", "l", "lacks", "group", "one"]:
                self.assertEqual(raised(function, store, ["one", thing]), ("BadRow", 1))
                if not isinstance(thing, (list, tuple)):
                    self.assertEqual(raised(function, store, thing), ("BadRow", 0))
        self.assertEqual(raised(rows_part, store, ["one"], ["two", "group", 0]), ("BadRow", 2))
        self.assertIsNone(raised(came, store, ["one", "group", "one"], [], []))

    def test_bad_mains(self):
        store = some_store()
        for function in (came, face):
            for thing in any_objects():
                self.assertEqual(raised(function, store, [], ["a", thing], [0]), ("BadWants", 1))
                self.assertEqual(raised(function, store, [], ["a"], ["b", thing]), ("BadHas", 1))
                if not isinstance(thing, (list, tuple)):
                    self.assertEqual(raised(function, store, [], thing, [0]), ("BadWants", 0))
                    self.assertEqual(raised(function, store, [], ["a"], thing), ("BadHas", 0))
            self.assertEqual(raised(function, store, [], ["a", "b", "a"], []), ("BadWants", 2))
            self.assertEqual(raised(function, store, [], ["a"], ["b", "b"]), ("BadHas", 1))
            self.assertEqual(raised(function, store, [], ["a"], ["b", "a"]), ("BadHas", 1))
            self.assertEqual(raised(function, store, ["o"], [0], [0]), ("BadRow", 0))
            self.assertEqual(raised(function, store, ["one"], [0], [0]), ("BadWants", 0))

    def test_lists_names_and_new_things(self):
        call_alike(self, came, some_store(), ["two", "one"], ["d"], ["e"])
        call_alike(self, face, some_store(), ["two", "one"], ["d"], ["e"])
        call_alike(self, first_unclear, some_store(), ["two", "one"])


class TestClearRows(unittest.TestCase):
    def test_first_unclear(self):
        store = Store({"one": Archive([("p", obj("bd")), ("q", obj("ec"))]), "two": Archive([("p", obj("c"))]),
                       "weak": Archive([("p", Object({"z": ("strong", None), "y": ("weak", None)}))]),
                       "comm": Archive([("p", Object({"a": ("common", 1)}))]), "group": ["one", "two"],
                       "both": Archive([("p", obj("x")), ("q", obj("wx"))])})
        for row, name in (([], None), (["one"], None), (["one", "one"], None), (["one", "two"], "c"), (["group"], "c"),
                          (["two", "weak"], "y"), (["weak", "comm"], "a"), (["both"], "x"), (["both", "one"], "x"),
                          (["both", "group"], "c")):
            self.assertEqual(first_unclear(store, row), name)
            for function, *more in ((chains,), (word_of, 0), (places_of, 0), (rows_part, []), (unsafe_main,)):
                error = raised(function, store, row, *more)
                self.assertEqual(error if name or not more or function == rows_part else None,
                                 ("NotClear", name) if name else None)
        for function in (once, ring_against):
            self.assertEqual(raised(function, store, ["one", "two"]), ("NotClear", "c"))
        self.assertEqual(raised(rows_part, store, ["one"], ["two"]), ("NotClear", "c"))
        self.assertEqual(raised(rows_part, store, ["one"], ["o"]), ("BadRow", 0))

    def test_several_wants_bring_what_each_brings_and_more_had_no_more(self):
        for seed in range(40):
            store = Store({**random_clear_archives(seed), "group": ["one", "two"]})
            for row in (["one", "two"], ["group"], ["two", "one", "two"]):
                for wants, has in all_mains("abcd"):
                    alone = {who for want in wants for who in came(store, row, [want], has)}
                    self.assertEqual(came(store, row, wants, has), sorted(alone))
                    for more in set("abcd") - set(wants) - set(has):
                        self.assertLessEqual(set(came(store, row, wants, [*has, more])), alone)

    def test_elsewhere_it_need_not_be_so(self):
        store = Store({"one": Archive([("p", obj("ab")), ("q", obj("c", "b")), ("r", obj("b"))])})
        self.assertEqual(came(store, ["one"], ["a"], []), [("one", "p")])
        self.assertEqual(came(store, ["one"], ["c"], []), [("one", "q"), ("one", "r")])
        self.assertEqual(came(store, ["one"], ["a", "c"], []), [("one", "p"), ("one", "q")])
