"""Promise 55: what libraries call in their beginnings and ends."""

import unittest

from linklines.objects import Library
from linklines.starts import Starts
from linklines.worlds import World
from tests.course_tools import example_60
from tests.tools import any_objects, raised, spoil
from tests.world_tools import example_52


class TestStarts(unittest.TestCase):
    def test_what_is_told(self):
        world = World({"b": Library([], ["f"]), "a": Library([], ["g"], ["h"])}, [], "loose")
        starts = Starts(world, {"b": ["f", "f"]}, {"a": ("h", "g", "h")})
        self.assertEqual(starts.world(), world)
        self.assertEqual(list(starts.begins().items()), [("a", ()), ("b", ("f", "f"))])
        self.assertEqual(list(starts.ends().items()), [("a", ("h", "g", "h")), ("b", ())])
        self.assertEqual(Starts(world=world, begins={}, ends={}).begins(), {"a": (), "b": ()})

    def test_copies_and_new_things(self):
        begins, ends = {"a": ["g"]}, {"a": ["f"]}
        starts = Starts(example_52(), begins, ends)
        begins["a"].append("f")
        ends["b"] = []
        for told in (starts.begins(), starts.ends()):
            spoil(told)
        self.assertEqual(starts, Starts(example_52(), {"a": ("g",), "b": ()}, {"a": ("f",)}))

    def test_equality(self):
        starts = Starts(example_52(), {"a": ["g"]}, {"a": ["f"]})
        for other in [Starts(example_52("counted"), {"a": ["g"]}, {"a": ["f"]}), Starts(example_52(), {"a": ["f"]}, {"a": ["g"]}),
                      Starts(example_52(), {"a": ["g"]}, {}), Starts(example_52(), {}, {"a": ["f"]}),
                      Starts(example_52(), {"a": ["g", "g"]}, {"a": ["f"]}), example_52(), *any_objects()]:
            self.assertFalse(starts == other)
        self.assertEqual(example_60(), example_60())

    def test_errors(self):
        world = example_52()
        for thing in any_objects():
            if not isinstance(thing, dict):
                self.assertEqual(raised(Starts, world, thing, None), ("BadBegins", None))
                self.assertEqual(raised(Starts, world, {}, thing), ("BadEnds", None))
            if not isinstance(thing, (list, tuple)):
                self.assertEqual(raised(Starts, world, {"b": [], "a": thing, "c": 0}, None), ("BadBegins", "a"))
                self.assertEqual(raised(Starts, world, {}, {"b": [], "a": thing, "c": 0}), ("BadEnds", "a"))
            self.assertEqual(raised(Starts, world, {"a": ["f", thing]}, None), ("BadBegins", "a"))
            self.assertEqual(raised(Starts, world, {}, {"a": ["f", thing]}), ("BadEnds", "a"))
        for key in (None, 1, "c", "A", ("a",), True):
            self.assertEqual(raised(Starts, world, {"a": [], key: [], "b": 0}, None), ("BadBegins", key))
            self.assertEqual(raised(Starts, world, {}, {"a": [], key: [], "b": 0}), ("BadEnds", key))
        # a name that is no slot of it, though it tells it
        for bad in (["h"], "fg", ["f", "h"]):
            self.assertEqual(raised(Starts, world, {"a": bad}, {"b": 0}), ("BadBegins", "a"))
        self.assertEqual(raised(Starts, world, {"b": ["f"]}, None), ("BadBegins", "b"))
        self.assertEqual(raised(Starts, world, {}, {"b": ["g"]}), ("BadEnds", "b"))


if __name__ == "__main__":
    unittest.main()
