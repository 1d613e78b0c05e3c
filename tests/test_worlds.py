"""Promise 43: worlds, groups, start lists."""

import random
import unittest

from linklines.objects import Library
from linklines.worlds import World
from tests.tools import any_objects, raised, spoil
from tests.world_tools import Plain, WORDS, example_52, random_libraries


def needing(**needs):
    return {word: Library([], [], [], list(words)) for word, words in needs.items()}


class TestWorlds(unittest.TestCase):
    def test_what_is_told(self):
        made = needing(b="", a="b")
        world = World(made, ["b", "a"], "counted")
        self.assertEqual(list(world.libraries().items()), [("a", made["a"]), ("b", made["b"])])
        self.assertEqual(world.start(), ["b", "a"])
        self.assertEqual(world.rule(), "counted")
        self.assertEqual(World(libraries=made, start=("a",), rule="loose").start(), ["a"])
        self.assertEqual(World({}, (), "reached").libraries(), {})
        self.assertEqual(World({}, (), "reached").start(), [])

    def test_copies_and_new_things(self):
        made, start = needing(a="", b=""), ["a"]
        world = World(made, start, "loose")
        made["c"] = Library([])
        start.append("b")
        for told in (world.libraries(), world.start(), world.group("a")):
            spoil(told)
        self.assertEqual(world, World(needing(a="", b=""), ["a"], "loose"))
        self.assertEqual(world.group("a"), ["a"])
        self.assertEqual(world.start(), ["a"])
        self.assertEqual(list(world.libraries()), ["a", "b"])

    def test_groups(self):
        world = World(needing(a="cb", b="d", c="ea", d="", e="d", f="f"), [], "loose")
        self.assertEqual(world.group("a"), ["a", "c", "b", "e", "d"])
        self.assertEqual(world.group("c"), ["c", "e", "a", "d", "b"])
        self.assertEqual(world.group(name="d"), ["d"])
        # a library that needs itself, by itself or by a ring
        self.assertEqual(world.group("f"), ["f"])
        ring = World(needing(a="b", b="c", c="a"), [], "loose")
        self.assertEqual([ring.group(word) for word in "abc"], [["a", "b", "c"], ["b", "c", "a"], ["c", "a", "b"]])
        for seed in range(60):
            world = World(random_libraries(random.Random(seed), WORDS), [], "loose")
            for word in WORDS:
                self.assertEqual(world.group(word), Plain(world).group([word]))

    def test_equality(self):
        world = World(needing(a="", b="a"), ["a", "b"], "loose")
        self.assertEqual(world, World(dict(reversed(needing(a="", b="a").items())), ("a", "b"), "loose"))
        for other in [World(needing(a="", b="a"), ["b", "a"], "loose"), World(needing(a="", b="a"), ["a", "b"], "counted"),
                      World(needing(a="", b=""), ["a", "b"], "loose"), World(needing(a="", b="a", c=""), ["a", "b"], "loose"),
                      *any_objects()]:
            self.assertFalse(world == other)
            self.assertTrue(world != other)

    def test_bad_libraries(self):
        for thing in any_objects():
            if not isinstance(thing, dict):
                self.assertEqual(raised(World, thing, None, None), ("BadLibraries", None))
            if not isinstance(thing, Library):
                made = {"z": Library([]), "b": thing, "a": 0}
                self.assertEqual(raised(World, made, None, None), ("BadLibraries", "b"))
        for key in (None, 1, True, "", "A", "a" * 9, ("a",)):
            made = {"z": Library([], [], [], ["no"]), key: Library([]), "b": 0}
            self.assertEqual(raised(World, made, None, None), ("BadLibraries", key))
        # who needs what is no key comes behind those
        made = {"z": Library([]), "b": Library([], [], [], ["z", "no"]), "a": Library([], [], [], ["no"])}
        self.assertEqual(raised(World, made, None, None), ("BadLibraries", "b"))
        self.assertEqual(raised(World, {**made, "y": 0}, None, None), ("BadLibraries", "y"))

    def test_bad_starts(self):
        made = needing(a="", b="")
        for thing in any_objects():
            if not isinstance(thing, (list, tuple)):
                self.assertEqual(raised(World, made, thing, None), ("BadStart", 0))
            self.assertEqual(raised(World, made, ["b", thing, "b"], None), ("BadStart", 1))
        for start, at in ((["a", "b", "a"], 2), (["c"], 0), (("a", "a"), 1), ("a", 0)):
            self.assertEqual(raised(World, made, start, None), ("BadStart", at))

    def test_bad_keeping(self):
        for thing in [*any_objects(), "Loose", "lose", "loose ", ["loose"], "a"]:
            self.assertEqual(raised(World, {}, [], thing), ("BadKeeping", thing))

    def test_no_library(self):
        world = example_52()
        for thing in [*any_objects(), "c"]:
            self.assertEqual(raised(world.group, thing), ("NoLibrary", thing))


if __name__ == "__main__":
    unittest.main()
