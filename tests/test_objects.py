"""Promises 3, 5 and 6: objects, archives and libraries."""

import unittest

from linklines.objects import Archive, Library, Object
from tests.tools import any_objects, as_lists, as_tuples, is_told_well, obj, raised, spoil

NAMES = {"b": ("strong", (0, 1)), "a": ("weak", None), "c": ("common", 3), "d": ("strong", (1, 2))}
SECTIONS = [("text", "rx", 4, [1, ("b", 0), ("w", -2), ("q", 7)]), (".bss_0", "rw", 64, 2)]


def made():
    return Object(NAMES, ["x", "w"], ["q", "p"], SECTIONS)


class TestObjects(unittest.TestCase):
    def test_what_an_object_tells(self):
        thing = made()
        self.assertEqual(list(thing.names().items()),
                         [("a", ("weak", None)), ("b", ("strong", (0, 1))), ("c", ("common", 3)),
                          ("d", ("strong", (1, 2)))])
        self.assertEqual(thing.wants(), ["w", "x"])
        self.assertEqual(thing.asks(), ["p", "q"])
        self.assertEqual(thing.sections(),
                         [("text", "rx", 4, (1, ("b", 0), ("w", -2), ("q", 7))), (".bss_0", "rw", 64, 2)])

    def test_defaults(self):
        thing = Object({})
        self.assertEqual((thing.names(), thing.wants(), thing.asks(), thing.sections()), ({}, [], [], []))

    def test_lists_and_tuples_are_alike_and_told_things_are_tuples(self):
        thing = Object(as_lists(NAMES), ("x", "w"), ("q", "p"), as_tuples(SECTIONS))
        other = Object(as_tuples(NAMES), ["x", "w"], ["q", "p"], as_lists(SECTIONS))
        self.assertEqual(thing, other)
        for one in (thing, other):
            self.assertTrue(all(is_told_well(worth, False) for worth in one.names().values()))
            self.assertTrue(is_told_well(one.sections()))
            self.assertEqual([type(part) for part in (one.wants(), one.asks(), one.sections())], [list] * 3)

    def test_by_names(self):
        self.assertEqual(Object(names=NAMES, wants=["x", "w"], asks=["q", "p"], sections=SECTIONS), made())

    def test_objects_copy_what_they_are_made_of(self):
        names, wants, asks, sections = as_lists(NAMES), ["x", "w"], ["q", "p"], as_lists(SECTIONS)
        thing = Object(names, wants, asks, sections)
        names["b"][1][1] = 9
        names["new"] = ["weak", None]
        wants.append("z")
        asks.clear()
        sections[0][3][0] = 99
        sections[1][0] = "other"
        self.assertEqual(thing, made())

    def test_what_is_passed_stays(self):
        names, sections = as_lists(NAMES), as_lists(SECTIONS)
        Object(names, ["x", "w"], ["q", "p"], sections)
        self.assertEqual(names, as_lists(NAMES))
        self.assertEqual(list(names), list(NAMES))
        self.assertEqual(sections, as_lists(SECTIONS))

    def test_what_is_told_is_new(self):
        thing = made()
        for told in (thing.names(), thing.wants(), thing.asks(), thing.sections()):
            spoil(told)
        self.assertEqual(thing, made())

    def test_equality(self):
        self.assertEqual(made(), made())
        self.assertEqual(Object({"a": ("weak", None)}, ["b", "c"]), Object({"a": ("weak", None)}, ["c", "b"]))
        others = [Object({**NAMES, "a": ("strong", None)}, ["x", "w"], ["q", "p"], SECTIONS),
                  Object(NAMES, ["x", "w", "y"], ["q", "p"], SECTIONS),
                  Object(NAMES, ["x", "w"], ["q"], SECTIONS),
                  Object(NAMES, ["x", "w"], ["q", "p"], [SECTIONS[0], ("bss", "rw", 64, 2)]),
                  Object(NAMES, ["x", "w"], ["q", "p"], [SECTIONS[0], (".bss_0", "rw", 64, [0, 0])])]
        for other in [*others, *any_objects(), NAMES]:
            self.assertFalse(made() == other)
            self.assertTrue(made() != other)

    def test_bad_names(self):
        for thing in any_objects():
            if not isinstance(thing, dict):
                self.assertEqual(raised(Object, thing), ("BadNames", None))
        for key in (None, 1, True, "", "A", "a" * 9, "a1", "a\n", ("a",), "\u00e4"):
            self.assertEqual(raised(Object, {"ok": ("weak", None), key: ("weak", None)}), ("BadNames", key))
        Object({"a" * 8: ("weak", None)})

    def test_bad_definitions(self):
        bad = [*any_objects(), ("strong",), ("strong", None, None), ("strange", None), ("common", 0), ("common", None),
               ("common", True), ("common", (0, 0)), ("strong", (0,)), ("strong", (0, -1)), ("strong", (-1, 0)),
               ("weak", (0, True)), ("weak", ("a", 0)), ("weak", 0), ("strong", ()), ("weak", [0, None]),
               (["strong"], None), "strong", {"strong": None}]
        for thing in bad:
            self.assertEqual(raised(Object, {"ok": ("weak", None), "b": thing, "a": 0}), ("BadNames", "b"))

    def test_bad_wants(self):
        names = {"a": ("weak", None)}
        for thing in any_objects():
            if not isinstance(thing, (list, tuple)):
                self.assertEqual(raised(Object, names, thing), ("BadWants", 0))
            self.assertEqual(raised(Object, names, ["b", thing]), ("BadWants", 1))
        self.assertEqual(raised(Object, names, ["b", "c", "a"]), ("BadWants", 2))
        self.assertEqual(raised(Object, names, ["b", "b", 0]), ("BadWants", 1))
        self.assertEqual(raised(Object, names, "b"), ("BadWants", 0))

    def test_bad_asks(self):
        names = {"a": ("weak", None)}
        for thing in any_objects():
            if not isinstance(thing, (list, tuple)):
                self.assertEqual(raised(Object, names, ["w"], thing), ("BadAsks", 0))
            self.assertEqual(raised(Object, names, ["w"], ["b", thing]), ("BadAsks", 1))
        self.assertEqual(raised(Object, names, ["w"], ["b", "w"]), ("BadAsks", 1))
        self.assertEqual(raised(Object, names, ["w"], ["b", "a"]), ("BadAsks", 1))
        self.assertEqual(raised(Object, names, ["w"], ["b", "c", "b"]), ("BadAsks", 2))

    def test_bad_sections(self):
        for thing in any_objects():
            if not isinstance(thing, (list, tuple)):
                self.assertEqual(raised(Object, {}, (), (), thing), ("BadSections", 0))
            self.assertEqual(raised(Object, {}, (), (), [("t", "r", 1, 0), thing]), ("BadSections", 1))
        bad = [("", "r", 1, 0), ("T", "r", 1, 0), ("a" * 13, "r", 1, 0), (None, "r", 1, 0), ("a b", "r", 1, 0),
               ("t", "w", 1, 0), ("t", "", 1, 0), ("t", None, 1, 0), ("t", ["r"], 1, 0), ("t", "r", 3, 0),
               ("t", "r", True, 0), ("t", "r", 128, 0), ("t", "r", 0, 0), ("t", "r", None, 0), ("t", "r", 1, -1),
               ("t", "r", 1, True), ("t", "r", 1, None), ("t", "r", 1, "ab"), ("t", "r", 1, [None]),
               ("t", "r", 1, [True]), ("t", "r", 1, [("w",)]), ("t", "r", 1, [("w", True)]), ("t", "r", 1, [("W", 0)]),
               ("t", "r", 1, ["w"]), ("t", "r", 1, [("w", 0, 0)]), ("t", "r", 1, [[]]), ("t", "r", 1), ("t", "r", 1, 0, 0)]
        for thing in bad:
            self.assertEqual(raised(Object, {}, ["w"], (), [("t", "r", 1, 0), thing, 0]), ("BadSections", 1), thing)
        self.assertEqual(raised(Object, {}, ["w"], (), [("t", "r", 1, [("v", 0)])]), ("BadSections", 0))
        good = [("a0._" * 3, rights, align, body) for rights in ("r", "rw", "rx")
                for align in (1, 2, 4, 8, 16, 32, 64) for body in (0, 5, [], [-1, ("w", -1)])]
        self.assertEqual(len(Object({}, ["w"], (), good).sections()), 84)

    def test_bad_spots(self):
        sections = [("t", "r", 1, [1, 2]), ("z", "rw", 1, 3), ("e", "r", 1, [])]

        def spot_of(kind, *spot):
            return raised(Object, {"b": (kind, spot), "a": ("weak", None), "k": ("common", 9)}, (), (), sections)

        for kind in ("strong", "weak"):
            for spot in ((0, 0), (0, 2), (1, 3), (2, 0)):
                self.assertIsNone(spot_of(kind, *spot))
            for spot in ((0, 3), (1, 4), (2, 1), (3, 0), (10 ** 30, 0), (0, 10 ** 30)):
                self.assertEqual(spot_of(kind, *spot), ("BadSpot", "b"))
        names = {"c": ("strong", (9, 0)), "b": ("strong", (9, 0)), "a": ("strong", (0, 0))}
        self.assertEqual(raised(Object, names, (), (), sections), ("BadSpot", "b"))

    def test_which_error_comes_first(self):
        names, good = {"b": ("strong", (9, 9))}, {"b": ("strong", None)}
        self.assertEqual(raised(Object, {"A": 0}, [0], [0], [0]), ("BadNames", "A"))
        self.assertEqual(raised(Object, {"b": 0, "A": 0}), ("BadNames", "b"))
        self.assertEqual(raised(Object, names, [0], [0], [0]), ("BadWants", 0))
        self.assertEqual(raised(Object, names, [], [0], [0]), ("BadAsks", 0))
        self.assertEqual(raised(Object, names, [], [], [0]), ("BadSections", 0))
        self.assertEqual(raised(Object, names, [], [], []), ("BadSpot", "b"))
        self.assertIsNone(raised(Object, good, [], [], []))


class TestArchives(unittest.TestCase):
    def test_members(self):
        members = [["b", obj("x")], ["a", obj("y")]]
        archive = Archive(members)
        members[0][0] = "z"
        members.append(("c", obj("")))
        self.assertEqual(archive.members(), [("b", obj("x")), ("a", obj("y"))])
        spoil(archive.members())
        self.assertEqual(archive, Archive(members=(("b", obj("x")), ("a", obj("y")))))
        self.assertEqual(Archive([]).members(), [])

    def test_equality(self):
        archive = Archive([("b", obj("x")), ("a", obj("y"))])
        for other in [Archive([("a", obj("y")), ("b", obj("x"))]), Archive([("b", obj("x"))]), archive.members(),
                      Archive([("b", obj("x")), ("a", obj("z"))]), *any_objects()]:
            self.assertFalse(archive == other)
        self.assertFalse(Archive([]) == Library([]))

    def test_bad_members(self):
        for thing in any_objects():
            if not isinstance(thing, (list, tuple)):
                self.assertEqual(raised(Archive, thing), ("BadMembers", 0))
            self.assertEqual(raised(Archive, [("a", obj("")), thing]), ("BadMembers", 1))
            if not isinstance(thing, Object):
                self.assertEqual(raised(Archive, [("a", obj("")), ("b", thing)]), ("BadMembers", 1))
            self.assertEqual(raised(Archive, [("a", obj("")), (thing, obj(""))]), ("BadMembers", 1))
        self.assertEqual(raised(Archive, [("a", obj("")), ("b", obj("")), ("a", obj("")), 0]), ("BadMembers", 2))
        self.assertEqual(raised(Archive, [("a", obj(""), None)]), ("BadMembers", 0))
        self.assertEqual(raised(Archive, [("a", Archive([]))]), ("BadMembers", 0))


class TestLibraries(unittest.TestCase):
    def test_what_a_library_tells(self):
        library = Library(["t", "s"], ["w", "t"], ["s", "a"], ["z", "y"], True, True)
        self.assertEqual((library.tells(), library.wants(), library.asks(), library.needs()),
                         (["s", "t"], ["t", "w"], ["a", "s"], ["z", "y"]))
        self.assertIs(library.own_first(), True)
        self.assertIs(library.stays(), True)
        plain = Library(())
        self.assertEqual((plain.tells(), plain.wants(), plain.asks(), plain.needs()), ([], [], [], []))
        self.assertIs(plain.own_first(), False)
        self.assertIs(plain.stays(), False)

    def test_copies_and_new_things(self):
        parts = [["t"], ["w"], ["a"], ["z", "y"]]
        library = Library(*parts)
        for part in parts:
            part.append("more")
        for told in (library.tells(), library.wants(), library.asks(), library.needs()):
            spoil(told)
        same = Library(tells=("t",), wants=("w",), asks=("a",), needs=("z", "y"), own_first=False, stays=False)
        self.assertEqual(library, same)

    def test_equality(self):
        library = Library(["t", "s"], ["w"], ["a"], ["z", "y"])
        self.assertEqual(library, Library(["s", "t"], ["w"], ["a"], ["z", "y"]))
        for other in [Library(["t"], ["w"], ["a"], ["z", "y"]), Library(["t", "s"], [], ["a"], ["z", "y"]),
                      Library(["t", "s"], ["w"], [], ["z", "y"]), Library(["t", "s"], ["w"], ["a"], ["y", "z"]),
                      Library(["t", "s"], ["w"], ["a"], ["z", "y"], True),
                      Library(["t", "s"], ["w"], ["a"], ["z", "y"], False, True), *any_objects()]:
            self.assertFalse(library == other)

    def test_bad_lists(self):
        for at, error in enumerate(("BadTells", "BadWants", "BadAsks", "BadNeeds")):
            for thing in any_objects():
                parts = [["t"], ["w"], ["a"], ["z"]]
                parts[at] = ["k", thing]
                self.assertEqual(raised(Library, *parts), (error, 1))
                parts[at] = ["k", "l", "k", thing]
                self.assertEqual(raised(Library, *parts), (error, 2))
                if not isinstance(thing, (list, tuple)):
                    parts[at] = thing
                    self.assertEqual(raised(Library, *parts), (error, 0))
        self.assertEqual(raised(Library, [], ["w", "v"], ["a", "v"]), ("BadAsks", 1))
        self.assertIsNone(raised(Library, ["a", "w"], ["w"], ["a"], ["a", "w"]))

    def test_bad_marks(self):
        for thing in any_objects():
            if not isinstance(thing, bool):
                self.assertEqual(raised(Library, [], [], [], [], thing), ("BadMark", thing))
                self.assertEqual(raised(Library, [], [], [], [], False, thing), ("BadMark", thing))
        self.assertEqual(raised(Library, [], [], [], [], 1, 2), ("BadMark", 1))

    def test_which_error_comes_first(self):
        self.assertEqual(raised(Library, [0], [0], [0], [0], 0, 0), ("BadTells", 0))
        self.assertEqual(raised(Library, [], [0], [0], [0], 0, 0), ("BadWants", 0))
        self.assertEqual(raised(Library, [], [], [0], [0], 0, 0), ("BadAsks", 0))
        self.assertEqual(raised(Library, [], [], [], [0], 0, 0), ("BadNeeds", 0))
