"""Promise 56: courses and their events; the example of 60."""

import random
import unittest

from linklines.courses import Course
from linklines.objects import Library
from linklines.processes import Process
from linklines.starts import Starts
from linklines.worlds import World
from tests.course_tools import example_60, plain_course, random_starts
from tests.tools import any_objects, as_lists, as_tuples, raised, spoil
from tests.world_tools import OPEN, example_52, random_row, random_world


def told_by(process):
    return (process.answers(), process.there(), process.searched(), process.opened(), process.slots())


class TestCourses(unittest.TestCase):
    def test_rows_at_random(self):
        seen = {}
        for seed in range(1200):
            dice = random.Random(seed)
            starts = random_starts(seed, dice.choice([2, 3, 3, 4]))
            row = random_row(dice, starts.world(), 14)
            course, plain = Course(starts, row), plain_course(starts, row)
            self.assertEqual(course.events(), plain.events)
            self.assertEqual(told_by(course.process()),
                             (plain.answers, plain.there, plain.search, plain.count, plain.slots))
            for event in plain.events:
                answer = event[-1]
                key = (event[0], answer[2] if isinstance(answer, tuple) and answer[0] == "to" and len(answer) == 3 else "")
                seen[key] = seen.get(key, 0) + 1
        for key in (("first", "unbegun"), ("first", "half"), ("first", "begun"), ("last", "begun"), ("last", "ended"),
                    ("deed", "begun"), ("first", ""), ("last", ""), ("ended", "")):
            self.assertGreater(seen[key], 5, seen)
        self.assertNotIn(("deed", "half"), seen)

    def test_without_any_names_it_is_the_process(self):
        for seed in range(150):
            dice = random.Random(seed)
            world = random_world(seed, 3)
            row = random_row(dice, world)
            course = Course(Starts(world, {}, {word: [] for word in world.libraries()}), row)
            self.assertEqual(course.process(), Process(world, row))
            self.assertEqual(course.process().answers(), Process(world, row).answers())

    def test_going_on(self):
        for seed in range(150):
            dice = random.Random(seed)
            starts = random_starts(seed, 3)
            rows = [random_row(dice, starts.world(), 6) for _ in range(2)]
            first = Course(starts, rows[0])
            told = (first.events(), told_by(first.process()))
            second = first.more(rows[1])
            whole = Course(starts, [*rows[0], *rows[1]])
            self.assertEqual(second.events(), whole.events())
            self.assertEqual(second.process(), whole.process())
            self.assertEqual(second.process().answers(), whole.process().answers())
            first.more(rows[1][::-1])
            first.process().more(rows[1])
            self.assertEqual(told, (first.events(), told_by(first.process())))
            # the process goes on as a process, without beginnings and ends
            plain = plain_course(starts, rows[0])
            for deed in rows[1]:
                plain.do(deed)
            self.assertEqual(told_by(first.process().more(rows[1])),
                             (plain.answers, plain.there, plain.search, plain.count, plain.slots))

    def test_the_example(self):
        wanted = [("begins", "b"), ("first", "b", "f", ("to", "a", "unbegun")), ("begun", "b"), ("begins", "a"),
                  ("first", "a", "g", ("to", "b", "begun")), ("begun", "a"), ("begins", "m"), ("begun", "m")]
        course = Course(example_60())
        self.assertEqual(course.events(), wanted)
        spoil(course.events())
        self.assertEqual(course.events(), wanted)
        self.assertEqual(course.process().slots(), {("a", "g"): ("to", "b"), ("b", "f"): ("to", "a")})
        self.assertEqual(course.process().answers(), [])

    def test_lists_and_tuples(self):
        starts = Starts(example_52(), {"a": ["g"]}, {})
        row = [OPEN, ("call", "a", "f"), ("find", "b", "g"), ("close", "b")]
        wanted = [("begins", "a"), ("first", "a", "g", "nobody"), ("begun", "a"), ("begins", "b"), ("begun", "b"),
                  ("deed", OPEN, "opened"), ("deed", ("call", "a", "f"), ("to", "a", "begun")),
                  ("deed", ("find", "b", "g"), ("to", "b")), ("ends", "b"), ("ended", "b"),
                  ("deed", ("close", "b"), "closed")]
        for other in (row, as_lists(row), as_tuples(row)):
            self.assertEqual(Course(starts, other).events(), wanted)
            self.assertEqual(Course(starts=starts).more(row=other).events(), wanted)
        kept = as_lists(row)
        Course(starts, kept)
        self.assertEqual(kept, as_lists(row))
        self.assertEqual(Course(starts, row).process().answers(), ["opened", ("to", "a"), ("to", "b"), "closed"])

    def test_half_begun_ones(self):
        # who calls itself in its beginning meets itself half begun
        world = World({"a": Library(["f"], ["f"])}, ["a"], "loose")
        self.assertEqual(Course(Starts(world, {"a": ["f", "f"]}, {})).events(),
                         [("begins", "a"), ("first", "a", "f", ("to", "a", "half")),
                          ("first", "a", "f", ("to", "a", "half")), ("begun", "a")])

    def test_ends(self):
        made = {"a": Library(["f"], ["g"], [], ["b"]), "b": Library(["g"], ["f"], ["h"]), "c": Library(["h"])}
        starts = Starts(World(made, [], "loose"), {}, {"a": ["g"], "b": ["f", "h"]})
        open_c, open_a = ("open", "c", "lazy", "all"), ("open", "a", "lazy", "all")
        events = Course(starts, [open_c, open_a, ("close", "a")]).events()
        # last begun first; who is ended is met as such, and only then do both leave
        self.assertEqual(events[-8:], [
            ("ends", "a"), ("last", "a", "g", ("to", "b", "begun")), ("ended", "a"),
            ("ends", "b"), ("last", "b", "f", ("to", "a", "ended")), ("last", "b", "h", ("to", "c", "begun")),
            ("ended", "b"), ("deed", ("close", "a"), "closed")])

    def test_who_leaves_is_settled_ahead_of_the_ends(self):
        # b ends by a call of c, which would keep nobody: b leaves, and what was bound to it is gone
        made = {"b": Library(["g"], ["f"]), "c": Library(["f"], ["g"])}
        starts = Starts(World(made, ["c"], "loose"), {}, {"b": ["f"]})
        row = [("open", "b", "lazy", "all"), ("call", "c", "g"), ("close", "b"), ("call", "c", "g")]
        course = Course(starts, row)
        self.assertEqual(course.process().answers(), ["opened", ("to", "b"), "closed", "gone"])
        self.assertEqual(course.process().there(), [("c", ("c",))])
        # an end's call that binds one who leaves to one who leaves keeps neither
        made = {"x": Library(["p"], ["q"]), "y": Library(["q"], ["p"])}
        row = [("open", "x", "lazy", "all"), ("open", "y", "lazy", "all"), ("close", "y"), ("close", "x")]
        starts = Starts(World(made, [], "counted"), {}, {"x": ["q"], "y": ["p"]})
        course = Course(starts, row)
        self.assertEqual(course.process().there(), [])
        self.assertIn(("last", "y", "p", ("to", "x", "begun")), course.events())
        self.assertIn(("last", "x", "q", "missing"), course.events())

    def test_an_open_that_is_refused_brings_no_beginning(self):
        made = {"a": Library([], ["f"])}
        starts = Starts(World(made, [], "loose"), {"a": ["f"]}, {})
        course = Course(starts, [("open", "a", "now", "all")])
        self.assertEqual(course.events(), [("deed", ("open", "a", "now", "all"), ("missing", "a", "f"))])
        course = course.more([("open", "a", "lazy", "all"), ("close", "a"), ("close", "a")])
        self.assertEqual(course.events()[1:], [
            ("begins", "a"), ("first", "a", "f", "missing"), ("begun", "a"), ("deed", ("open", "a", "lazy", "all"), "opened"),
            ("ends", "a"), ("ended", "a"), ("deed", ("close", "a"), "closed"), ("deed", ("close", "a"), "not open")])

    def test_the_order_of_needs(self):
        made = {"a": Library([], [], [], ["c", "b"]), "b": Library([], [], [], ["a"]), "c": Library([], [], [], ["d", "b"]),
                "d": Library([], [], [], ["c"]), "m": Library([], [], [], ["d"])}
        order = [event[1] for event in Course(Starts(World(made, [], "loose"), {}, {}),
                                              [("open", "a", "lazy", "own")]).events() if event[0] == "begins"]
        self.assertEqual(order, ["d", "b", "c", "a"])
        order = [event[1] for event in Course(Starts(World(made, ["m", "b"], "loose"), {}, {})).events()
                 if event[0] == "begins"]
        self.assertEqual(order, ["a", "b", "c", "d", "m"])

    def test_now_binds_ahead_of_the_beginnings(self):
        made = {"a": Library(["f"], ["g"], [], ["b"]), "b": Library(["g"], ["f"])}
        starts = Starts(World(made, [], "loose"), {"b": ["f"]}, {})
        row = [("open", "a", "now", "all")]
        self.assertEqual(Course(starts, row).events()[:3],
                         [("begins", "b"), ("first", "b", "f", ("to", "a", "unbegun")), ("begun", "b")])
        self.assertEqual(Course(starts, row).process().slots(), {("a", "g"): ("to", "b"), ("b", "f"): ("to", "a")})

    def test_bad_deeds(self):
        starts = Starts(example_52(), {}, {})
        course = Course(starts, [OPEN])
        for function in (lambda row: Course(starts, row), course.more):
            for thing in any_objects():
                if not isinstance(thing, (list, tuple)):
                    self.assertEqual(raised(function, thing), ("BadDeed", 0))
                self.assertEqual(raised(function, [OPEN, thing, 0]), ("BadDeed", 1))
            self.assertEqual(raised(function, [OPEN, OPEN, ("call", "b", "f")]), ("BadDeed", 2))
        self.assertEqual(course.events(), Course(starts, [OPEN]).events())


if __name__ == "__main__":
    unittest.main()
