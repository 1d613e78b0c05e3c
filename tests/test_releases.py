"""Promises 35, 36 and 42: releases, what fits, steady ones."""

import random
import unittest

from linklines.releases import Releases, fits, unsteady
from tests.tools import any_objects, as_lists, as_tuples, call_alike, raised, spoil


def example_42():
    return {"b": [([("y", "u")], []), ([("y", "v")], [])],
            "a": [([("x", "u")], [("b", "y", "u")]), ([("x", "v")], [("b", "y", "v")])]}


def random_releases(seed, libraries=3, most=4):
    dice = random.Random(seed)
    words = ["a", "b", "c"][:libraries]
    made = {}
    for word in words:
        made[word] = []
        for _ in range(dice.randint(1, most)):
            tells = [(name, version) for name in "xy" for version in "uv" if dice.random() < 0.7]
            wants = [(other, name, version) for other in words if other != word for name in "xy" for version in "uv"
                     if dice.random() < 0.12]
            dice.shuffle(tells)
            made[word].append((tells, wants))
    return made


def plain_fits(made, library, number, other):
    wanted = [triple[1:] for triple in made[library][number - 1][1] if triple[0] == other]
    return [at + 1 for at, (tells, _) in enumerate(made[other]) if set(wanted) <= set(tells)]


def plain_unsteady(made):
    words = sorted(made)
    for library in words:
        for name, version in sorted({pair for tells, _ in made[library] for pair in tells}):
            marks = "".join("x" if (name, version) in tells else "." for tells, _ in made[library])
            if "." in marks.strip("."):
                return ("gap", library, name, version)
    for library in words:
        numbers = range(1, len(made[library]) + 1)
        living = [n for n in numbers if all(plain_fits(made, library, n, other) for other in words if other != library)]
        for other in words:
            for one in living:
                for later in living:
                    if other != library and one < later:
                        ahead, behind = [plain_fits(made, library, n, other) for n in (one, later)]
                        if behind[0] < ahead[0] or behind[-1] < ahead[-1]:
                            return ("back", library, other, one, later)
    return None


class TestReleases(unittest.TestCase):
    def test_what_is_told(self):
        made = {"b": [([("y", "v"), ("y", "u")], [])],
                "a": [([], [("b", "y", "v"), ("b", "x", "u")]), ((("x", "u"),), ())]}
        releases = Releases(made)
        self.assertEqual(list(releases.libraries().items()), [("a", 2), ("b", 1)])
        self.assertEqual(releases.release("a", 1), ([], [("b", "x", "u"), ("b", "y", "v")]))
        self.assertEqual(releases.release(library="b", number=1), ([("y", "u"), ("y", "v")], []))
        self.assertEqual(releases.release("a", 2), ([("x", "u")], []))
        self.assertEqual([type(part) for part in releases.release("a", 2)], [list, list])
        self.assertEqual(Releases({}).libraries(), {})

    def test_copies_and_new_things(self):
        made = as_lists(example_42())
        releases = Releases(made)
        made["a"][0][0].append(["z", "z"])
        made["a"].pop()
        made["c"] = []
        spoil(releases.libraries())
        for part in releases.release("a", 1):
            spoil(part)
        self.assertEqual(releases, Releases(libraries=as_tuples(example_42())))
        made = as_lists(example_42())
        Releases(made)
        self.assertEqual(made, as_lists(example_42()))

    def test_equality(self):
        made = {"a": [([("x", "u"), ("y", "v")], []), ([], [])]}
        releases = Releases(made)
        self.assertEqual(releases, Releases({"a": [([("y", "v"), ("x", "u")], []), ([], [])]}))
        for other in [Releases({"a": [([], []), ([("x", "u"), ("y", "v")], [])]}), Releases({"a": made["a"][:1]}),
                      Releases({"b": made["a"]}), Releases({**made, "b": made["a"]}), made, *any_objects()]:
            self.assertFalse(releases == other)

    def test_bad_releases(self):
        for thing in any_objects():
            if not isinstance(thing, dict):
                self.assertEqual(raised(Releases, thing), ("BadReleases", None))
        good = [([], [])]
        for key in (None, 1, True, "", "A", "a" * 9, ("a",)):
            self.assertEqual(raised(Releases, {"z": good, key: good, "b": 0}), ("BadReleases", key))
        for thing in any_objects():
            self.assertEqual(raised(Releases, {"z": good, "c": thing, "b": 0}), ("BadReleases", "c"))
        bad = [0, ([],), ([], [], []), ([("x",)], []), ([("x", "U")], []), ([("x", "u", "u")], []), (["xu"], []),
               ([("x", "u"), ("x", "u")], []), ([], [("z", "x")]), ([], [("z", "x", "u"), ("z", "x", "u")]),
               ([], [("c", "x", "u")]), ([], [("k", "x", "u")]), ([], [("z", "x", None)]), ([], [(["z"], "x", "u")]),
               ({}, []), ([], None), ([[]], []), ([], [{}])]
        for thing in bad:
            made = {"z": good, "c": [good[0], thing], "b": 0}
            self.assertEqual(raised(Releases, made), ("BadReleases", "c"), thing)
        self.assertIsNone(raised(Releases, {"c": [([], [("z", "x", "u")])], "z": good}))

    def test_no_library_and_no_release(self):
        releases = Releases(example_42())
        for thing in [*any_objects(), "c"]:
            self.assertEqual(raised(releases.release, thing, 0), ("NoLibrary", thing))
            self.assertEqual(raised(fits, releases, thing, 0, 0), ("NoLibrary", thing))
            self.assertEqual(raised(fits, releases, "a", 0, thing), ("NoLibrary", thing))
            if isinstance(thing, bool) or thing not in (1, 2):
                self.assertEqual(raised(releases.release, "a", thing), ("NoRelease", thing))
                self.assertEqual(raised(fits, releases, "a", thing, "b"), ("NoRelease", thing))
        self.assertEqual(raised(fits, releases, "a", 0, "a"), ("NoLibrary", "a"))
        self.assertEqual(raised(releases.release, "a", 3), ("NoRelease", 3))
        self.assertEqual(raised(fits, releases, "a", -1, "b"), ("NoRelease", -1))

    def test_what_fits(self):
        none = 0
        for seed in range(80):
            made = random_releases(seed)
            releases = Releases(made)
            for library in made:
                for other in made:
                    for number in range(1, len(made[library]) + 1):
                        if library != other:
                            told = fits(releases, library, number, other)
                            self.assertEqual(told, plain_fits(made, library, number, other))
                            none += told == []
        self.assertGreater(none, 20)
        told = call_alike(self, fits, Releases(example_42()), "b", 2, "a")
        self.assertEqual(told, [1, 2])
        self.assertEqual(fits(Releases(example_42()), "a", 2, "b"), [2])

    def test_unsteady_ones(self):
        found = {}
        for seed in range(900):
            made = random_releases(seed, 2 + seed % 2, 2 + seed % 3)
            told = unsteady(Releases(made))
            self.assertEqual(told, plain_unsteady(made))
            key = None if told is None else told[0]
            found[key] = found.get(key, 0) + 1
        self.assertGreater(min(found[key] for key in (None, "gap", "back")), 20)
        call_alike(self, unsteady, Releases(example_42()))
        self.assertIsNone(unsteady(Releases({})))

    def test_gaps_come_first_and_dead_ones_do_not_count(self):
        made = {"a": [([], [("b", "y", "v")]), ([], [("b", "y", "w")]), ([], [("b", "y", "u")])],
                "b": [([("y", "u")], []), ([("y", "v")], [])], "c": [([("q", "q")], []), ([], []), ([("q", "q")], [])]}
        self.assertEqual(unsteady(Releases(made)), ("gap", "c", "q", "q"))
        made["c"].pop()
        self.assertEqual(unsteady(Releases(made)), ("back", "a", "b", 1, 3))
        made["a"][0][1].append(("c", "none", "none"))
        self.assertIsNone(unsteady(Releases(made)))
        # the first fits go on, the last ones go back
        made = {"a": [([], []), ([], [("b", "y", "u")])], "b": [([("y", "u")], []), ([], [])]}
        self.assertEqual(unsteady(Releases(made)), ("back", "a", "b", 1, 2))

    def test_the_example(self):
        self.assertIsNone(unsteady(Releases(example_42())))
        made = {"a": [([], []), ([], [("b", "y", "v")]), ([], [("b", "y", "u")])],
                "b": [([("y", "u")], []), ([("y", "v")], [])]}
        self.assertEqual(unsteady(Releases(made)), ("back", "a", "b", 1, 3))
