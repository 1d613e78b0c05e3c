"""Promises 8 to 10: reading and programs."""

import random
import unittest

from linklines.objects import Archive, Library, Object
from linklines.programs import linked, links
from linklines.stands import outcome
from linklines.stores import Store
from tests.tools import any_objects, as_lists, call_alike, example_10, obj, plain_outcome, plain_standing, plain_taken
from tests.tools import raised, random_store, spoil


def program(files, line):
    return linked(Store(files), line)


class TestReading(unittest.TestCase):
    def test_an_object_is_taken_once(self):
        files = {"x": obj("a"), "y": obj("b")}
        self.assertEqual(program(files, ["x", "y", "x"]).taken(), [("x", None), ("y", None)])

    def test_an_archive_is_looked_through_again_and_again(self):
        archive = Archive([("p", obj("a")), ("q", obj("b", "a")), ("r", obj("c", "b")), ("s", obj("d"))])
        told = program({"m": obj("", "c"), "ar": archive}, ["m", "ar"])
        self.assertEqual(told.taken(), [("m", None), ("ar", "r"), ("ar", "q"), ("ar", "p")])

    def test_members_are_taken_at_once(self):
        # q is wanted as soon as p is taken, ahead of r, which is looked at later in the same look
        archive = Archive([("p", obj("a", "b")), ("q", obj("b")), ("r", obj("bc"))])
        told = program({"m": obj("", "a"), "ar": archive}, ["m", "ar"])
        self.assertEqual(told.taken(), [("m", None), ("ar", "p"), ("ar", "q")])

    def test_nobody_is_taken_for_what_is_told_or_asked_for_or_led(self):
        archive = Archive([("p", obj("a"))])
        self.assertEqual(program({"m": obj("a"), "n": obj("", "a"), "ar": archive}, ["m", "n", "ar"]).taken(),
                         [("m", None), ("n", None)])
        told = program({"m": obj("", "", "a"), "ar": archive}, ["m", "ar"])
        self.assertEqual(told.taken(), [("m", None)])
        self.assertEqual(told.meanings(), {"a": ("nothing", None)})
        told = program({"m": obj("", "a"), "lib": Library(["a"]), "ar": archive}, ["m", "lib", "ar"])
        self.assertEqual(told.taken(), [("m", None)])
        self.assertEqual(told.meanings(), {"a": ("library", "lib")})
        told = program({"m": obj("", "a"), "lib": Library(["a"]), "ar": archive}, ["m", "ar", "lib"])
        self.assertEqual(told.meanings(), {"a": ("strong", ("ar", "p"))})
        self.assertEqual(told.libraries(), [])

    def test_weak_and_common_ones_bring_members(self):
        archive = Archive([("p", Object({"a": ("common", 2)})), ("q", Object({"b": ("weak", None)}))])
        told = program({"m": obj("", "ab"), "ar": archive}, ["m", "ar"])
        self.assertEqual(told.taken(), [("m", None), ("ar", "p"), ("ar", "q")])

    def test_a_group_is_read_until_a_whole_round_takes_none(self):
        files = {"m": obj("", "a"), "one": Archive([("p", obj("a", "b")), ("q", obj("c", "d"))]),
                 "two": Archive([("p", obj("b", "c")), ("q", obj("d"))]), "group": ["one", "two"]}
        self.assertEqual(program(files, ["m", "group"]).taken(),
                         [("m", None), ("one", "p"), ("two", "p"), ("one", "q"), ("two", "q")])
        self.assertEqual(outcome(Store(files), ["m", "one", "two"]), ("missing", ("c",)))
        # what was taken by way of the group is not taken again, and the other way round
        self.assertEqual(len(program(files, ["m", "one", "two", "group", "one"]).taken()), 5)

    def test_strong_ahead_of_common_ahead_of_weak(self):
        weak, common = Object({"a": ("weak", None)}), Object({"a": ("common", 3)})
        files = {"wa": weak, "wb": weak, "ca": common, "cb": Object({"a": ("common", 5)}),
                 "cc": Object({"a": ("common", 4)}), "st": obj("a")}
        for line, kind, who, size in (("wa wb", "weak", "wa", None), ("wb wa", "weak", "wb", None),
                                      ("wa ca cb cc", "common", "ca", 5), ("cc ca", "common", "cc", 4),
                                      ("cb cc wa", "common", "cb", 5), ("wa ca st cb", "strong", "st", None)):
            told = program(files, line.split())
            self.assertEqual(told.meanings(), {"a": (kind, (who, None))})
            self.assertEqual(told.commons(), {} if size is None else {"a": size})

    def test_twice(self):
        files = {"x": obj("ab"), "y": obj("ba"), "z": Object({"a": ("weak", None), "b": ("common", 1)}, ["q"])}
        self.assertEqual(raised(program, files, ["x", "z", "y"]), ("Twice", "a"))
        self.assertEqual(raised(program, files, ["x", "z"]), ("Missing", ("q",)))
        # a member that comes for one name can tell another one twice
        files = {"m": obj("a", "b"), "ar": Archive([("p", obj("ab"))])}
        self.assertEqual(raised(program, files, ["m", "ar"]), ("Twice", "a"))

    def test_missing(self):
        files = {"x": obj("", "dac", "b"), "y": obj("", "b"), "l": Library(["c"])}
        self.assertEqual(raised(program, files, ["x", "y"]), ("Missing", ("a", "b", "c", "d")))
        self.assertEqual(raised(program, files, ["x", "l"]), ("Missing", ("a", "d")))

    def test_meanings_of_asked_names(self):
        files = {"x": obj("", "", "ab"), "l": Library(["a"]), "k": Library(["a"])}
        told = program(files, ["k", "x", "l"])
        self.assertEqual(list(told.meanings().items()), [("a", ("library", "k")), ("b", ("nothing", None))])

    def test_against_a_plain_reader(self):
        linked_ones = 0
        for seed in range(300):
            store = random_store(seed, 5)
            dice = random.Random(seed)
            for _ in range(10):
                line = [dice.choice(store.files()) for _ in range(dice.randint(0, 5))]
                expected = plain_outcome(store, line)
                self.assertEqual(outcome(store, line), expected)
                self.assertIs(links(store, line), expected[0] == "links")
                if expected[0] != "links":
                    name = {"twice": "Twice", "missing": "Missing"}[expected[0]]
                    self.assertEqual(raised(linked, store, line), (name, expected[1]))
                    continue
                linked_ones += 1
                self.check_program(store, line, linked(store, line), expected[1])
        self.assertGreater(linked_ones, 500)

    def check_program(self, store, line, told, pairs):
        taken, loaded = plain_taken(store, line)
        self.assertEqual(told.taken(), [who for who, _, _ in taken])
        self.assertEqual(list(told.meanings().items()), list(pairs))
        used = [meaning[1] for _, meaning in pairs if meaning[0] == "library"]
        self.assertEqual(told.libraries(), [library for library in loaded if library in used])
        sizes = {}
        for name, (kind, _) in pairs:
            if kind == "common":
                sizes[name] = max(held.names()[name][1] for _, held, _ in taken
                                  if held.names().get(name, ("",))[0] == "common")
                self.assertEqual(plain_standing(taken, name)[0], "common")
        self.assertEqual(list(told.commons().items()), list(sizes.items()))
        for who, held, cause in taken:
            self.assertEqual(told.object_of(who), held)
            self.assertEqual(told.reason(who), cause)


class TestPrograms(unittest.TestCase):
    def test_the_example(self):
        store = example_10()
        told = linked(store, ["main", "one", "two"])
        self.assertEqual(told.taken(), [("main", None), ("one", "b"), ("one", "a"), ("two", "c")])
        self.assertEqual(told.reason(("one", "a")), ("a", ("one", "b")))
        self.assertEqual(told.meanings()["c"], ("weak", ("two", "c")))
        self.assertEqual(raised(linked, store, ["one", "main", "two"]), ("Missing", ("b",)))
        self.assertEqual(raised(linked, store, ["main", "two", "one"]), ("Missing", ("c",)))

    def test_reasons(self):
        files = {"m": obj("", "cb"), "n": obj("", "b"), "ar": Archive([("p", obj("abc"))])}
        told = program(files, ["n", "m", "ar"])
        self.assertEqual(told.reason(("ar", "p")), ("b", ("n", None)))
        self.assertIsNone(told.reason(("m", None)))
        told = program({"m": obj("", "bc"), "k": obj("b"), "ar": Archive([("p", Object(
            {"a": ("weak", None), "b": ("weak", None), "c": ("weak", None)}))])}, ["m", "k", "ar"])
        self.assertEqual(told.reason(["ar", "p"]), ("c", ("m", None)))

    def test_sections(self):
        one = Object({}, [], [], [("t", "r", 1, 3), ("u", "rw", 2, [1])])
        two = Object({"a": ("strong", (0, 1))}, [], [], [("v", "rx", 4, [("a", 0)])])
        files = {"m": obj("", "a"), "o": one, "ar": Archive([("p", two)])}
        self.assertEqual(program(files, ["o", "m", "ar"]).sections(),
                         [(("o", None), 0, ("t", "r", 1, 3)), (("o", None), 1, ("u", "rw", 2, (1,))),
                          (("ar", "p"), 0, ("v", "rx", 4, (("a", 0),)))])

    def test_not_taken(self):
        told = linked(example_10(), ["main", "one", "two"])
        for function in (told.object_of, told.reason):
            for thing in [*any_objects(), ("main",), ("main", "b"), ("one", None), ("one", "z"), ("one", ["b"]),
                          ("one", "b", None), "main", ["main", {}], (True, None), ([], None), [{}, "b"]]:
                self.assertEqual(raised(function, thing), ("NotTaken", thing))

    def test_lists_names_and_new_things(self):
        store = example_10()
        first = call_alike(self, linked, store, ["main", "one", "two"])
        call_alike(self, links, store, ["main", "one", "two"])
        for told in (first.taken(), first.meanings(), first.libraries(), first.commons(), first.sections()):
            spoil(told)
        self.assertEqual(first, linked(store, ["main", "one", "two"]))
        self.assertEqual(first.object_of(who=["one", "a"]), obj("a", "c"))
        self.assertEqual(call_alike(self, first.reason, ("one", "a")), ("a", ("one", "b")))

    def test_equality(self):
        a, c = Object({"a": ("common", 1)}), Object({"a": ("common", 2)})
        base = {"m": obj("b"), "x": a, "y": c, "k": Library(["q"]), "w": obj("", "q"), "l": Library(["q"])}
        told = program(base, ["m", "x", "y", "k", "w"])
        self.assertEqual(told, program({**base, "more": obj("")}, ["m", "x", "y", "x", "k", "w", "l"]))
        others = [program(base, ["m", "y", "x", "k", "w"]), program(base, ["x", "m", "y", "k", "w"]),
                  program(base, ["m", "x", "y", "l", "w"]), program(base, ["m", "x", "k", "w"]),
                  program({**base, "y": Object({"a": ("common", 3)})}, ["m", "x", "y", "k", "w"]),
                  program({**base, "m": Object({"b": ("strong", None)}, [], [], [("t", "r", 1, 1)])},
                          ["m", "x", "y", "k", "w"]), *any_objects()]
        for other in others:
            self.assertFalse(told == other)
            self.assertTrue(told != other)

    def test_programs_with_libraries_read_in_another_order_are_unlike(self):
        files = {"m": obj("", "ab"), "k": Library(["a"]), "l": Library(["b"])}
        one, other = program(files, ["m", "k", "l"]), program(files, ["m", "l", "k"])
        self.assertEqual(one.meanings(), other.meanings())
        self.assertEqual((one.libraries(), other.libraries()), (["k", "l"], ["l", "k"]))
        self.assertFalse(one == other)

    def test_programs_with_other_reasons_are_unlike(self):
        files = {"m": obj("", "ab"), "ar": Archive([("p", obj("ab"))]), "l": Library(["a"])}
        one, other = program(files, ["m", "ar", "l"]), program(files, ["m", "l", "ar"])
        self.assertEqual((one.taken(), one.meanings(), one.libraries(), one.commons(), one.sections()),
                         (other.taken(), other.meanings(), other.libraries(), other.commons(), other.sections()))
        self.assertEqual(one.reason(("ar", "p")), ("a", ("m", None)))
        self.assertEqual(other.reason(("ar", "p")), ("b", ("m", None)))
        self.assertFalse(one == other)

    def test_a_program_stays_when_lists_behind_it_change(self):
        line = ["main", "one", "two"]
        told = linked(example_10(), line)
        line.clear()
        self.assertEqual(told, linked(example_10(), as_lists(("main", "one", "two"))))
