"""Promises 57, 58 and 60: rows with early and late calls, and who has begun ahead of whom."""

import itertools
import random
import unittest

from linklines.courses import Course
from linklines.early import ahead_row, early_row, late_row
from linklines.objects import Library
from linklines.starts import Starts
from linklines.worlds import World
from tests.course_tools import (PlainCourse, example_60, is_call_of, small_rings, small_starts,
                                starts_over)
from tests.tools import any_objects, call_alike, raised
from tests.world_tools import RULES, all_deeds, deeds_elsewhere, is_small, small_worlds


def all_steps(starts, deeds, most_open=2, most_rows=99):
    """The pairs (row, (begun ahead, events that its last deed brings)) along all courses, in the order of choices."""
    first = PlainCourse(starts)
    yield (), ([], first.events)
    waiting, met = [((), first)], {first.key()}
    while waiting:
        row, plain = waiting.pop(0)
        if len(row) >= most_rows:
            return
        for deed in deeds:
            if deed[0] == "open" and plain.count.get(deed[1], 0) >= most_open:
                continue
            later = plain.copy()
            yield (*row, deed), (plain.when, later.step(deed))
            if later.key() not in met:
                met.add(later.key())
                waiting.append(((*row, deed), later))


def first_with(steps, hows):
    return next((list(row) for row, (_, events) in steps if is_call_of(events, hows)), None)


def is_too_soon(begun, events, one, other):
    begun = set(begun)
    for event in events:
        if event[0] == "begun":
            begun.add(event[1])
        if event == ("begins", other) and one not in begun:
            return True
    return False


def first_ahead(steps, one, other):
    return next((list(row) for row, (begun, events) in steps if is_too_soon(begun, events, one, other)), None)


def needed_by(world, word):
    """Who is needed by a library by any number of needs, itself only where a ring leads back."""
    made = world.libraries()
    found = list(made[word].needs())
    for one in found:
        found.extend(need for need in made[one].needs() if need not in found)
    return found


class TestAllRows(unittest.TestCase):
    def check(self, starts, steps, is_sure, seen):
        """Holds all functions against the first ones of some steps; tells nothing else where these end too early."""
        for function, hows in ((early_row, ("unbegun", "half")), (late_row, ("ended",))):
            told, wanted = function(starts), first_with(steps, hows)
            if is_sure(told) or wanted is not None:
                self.assertEqual(told, wanted)
            seen[function.__name__, "none" if told is None else len(told)] = True
        words = list(starts.world().libraries())
        for one, other in itertools.product(words, repeat=2):
            told, wanted = ahead_row(starts, one, other), first_ahead(steps, one, other)
            if is_sure(told) or wanted is not None:
                self.assertEqual(told, wanted)
            seen["ahead_row", "none" if told is None else len(told)] = True

    def test_along_all_courses(self):
        seen = {}
        starts = [*small_starts(25, 60, 3, 6), *[starts_over(world, 5) for world in small_worlds(15, 100, None, 15)],
                  *small_rings(30, 150)]
        for one in starts:
            self.check(one, list(all_steps(one, deeds_elsewhere(one.world(), []))), lambda told: True, seen)
        for name in ("early_row", "ahead_row", "late_row"):
            self.assertIn((name, "none"), seen)
            self.assertIn((name, 2 if name == "late_row" else 1), seen)
        self.assertIn(("early_row", 0), seen)
        self.assertIn(("ahead_row", 0), seen)

    def test_along_rows_of_all_deeds(self):
        for starts in [*small_starts(8, 40, 2, 4), *small_starts(4, 20, 3, 5)]:
            steps = list(all_steps(starts, all_deeds(starts.world(), ["f"]), 3, 3))
            self.check(starts, steps, lambda told: told is not None and len(told) <= 3, {})

    def test_rows_show_it(self):
        worlds = [*small_worlds(40, 150, 4, 10), *small_worlds(30, 150, None, 10)]
        for starts in [*[starts_over(world, seed) for seed, world in enumerate(worlds)], *small_rings(40, 150)]:
            for function, hows in ((early_row, ("unbegun", "half")), (late_row, ("ended",))):
                row = function(starts)
                if row is not None:
                    self.assertTrue(is_call_of(Course(starts, row).events(), hows))
                    self.assertFalse(row and is_call_of(Course(starts, row[:-1]).events(), hows))


def closed_starts(seed):
    """Starts in which each name called is told by one library alone, which the caller needs, or which it is."""
    dice = random.Random(seed)
    words = ["a", "b", "c"][:dice.choice([2, 2, 3])]
    needs = {word: dice.sample(words, dice.choice([0, 1, 1, 2])) for word in words}
    names = dict(zip(words, "fgh"))
    made, begins, ends = {}, {}, {}
    for word in words:
        slots = sorted({names[other] for other in [*needs[word], word] if dice.random() < 0.7})
        made[word] = Library([names[word]], slots, [], needs[word], dice.random() < 0.3)
        begins[word] = [name for name in slots if dice.random() < 0.7]
        ends[word] = [name for name in slots if dice.random() < 0.5]
    start = dice.choice([[], [], ["a"], ["b"]])
    return Starts(World(made, start, dice.choice(RULES)), begins, ends)


def is_closed(starts):
    """Whether each name called is told by one library alone, which the caller needs, or which it is; nobody stays."""
    made = starts.world().libraries()
    for word in made:
        for name in [*starts.begins()[word], *starts.ends()[word]]:
            tellers = [other for other in made if name in made[other].tells()]
            if len(tellers) != 1 or tellers[0] not in [word, *made[word].needs()]:
                return False
    return True


class TestFacts(unittest.TestCase):
    def small_closed(self, many):
        found, seed = [], 0
        while len(found) < many:
            starts = closed_starts(seed)
            seed += 1
            if is_small(starts.world(), 300):
                found.append(starts)
        return found

    def called_back(self, starts, calls, words):
        """Those that are called by another library, among some, that they need."""
        world = starts.world()
        tellers = {name: word for word, library in world.libraries().items() for name in library.tells()}
        return [tellers[name] for word in words for name in calls[word]
                if tellers[name] != word and word in needed_by(world, tellers[name])]

    def test_closed_worlds(self):
        seen = {}
        for starts in [*self.small_closed(50), *[starts for starts in small_rings(70, 150) if is_closed(starts)]]:
            world = starts.world()
            others = [word for word in world.libraries() if word not in PlainCourse(starts).start_list]
            back = self.called_back(starts, starts.begins(), others)
            told = early_row(starts)
            if told != []:
                self.assertIs(told is not None, bool(back))
            for word in back:
                row = [("open", word, "lazy", "all")]
                self.assertTrue(is_call_of(Course(starts, row).events(), ("unbegun", "half")))
            seen["early", bool(back)] = seen.get(("early", bool(back)), 0) + 1
            back = self.called_back(starts, starts.ends(), others)
            if world.rule() == "counted":
                continue
            self.assertIs(late_row(starts) is not None, bool(back))
            for word in back:
                row = [("open", word, "lazy", "all"), ("close", word)]
                self.assertTrue(is_call_of(Course(starts, row).events(), ("ended",)))
            seen["late", bool(back)] = seen.get(("late", bool(back)), 0) + 1
        self.assertEqual(len(seen), 4)
        self.assertGreater(min(seen.values()), 1, seen)

    def test_who_begins_ahead_where_nobody_needs_in_a_ring(self):
        seen = {True: 0, False: 0}
        for starts in small_starts(60, 120, 3, 4):
            world = starts.world()
            words = list(world.libraries())
            needed = {word: needed_by(world, word) for word in words}
            if any(word in needed[word] for word in words):
                continue
            first = PlainCourse(starts).start_list
            order = [event[1] for event in Course(starts).events() if event[0] == "begins"]
            for one, other in itertools.permutations(words, 2):
                wanted = (one in first and other not in first
                          or one in first and other in first and order.index(one) < order.index(other)
                          or one not in first and other not in first and one in needed[other])
                told = ahead_row(starts, one, other)
                self.assertIs(told is None, wanted, (world.libraries(), first, one, other))
                seen[wanted] += 1
        self.assertGreater(min(seen.values()), 15, seen)


    def test_who_begins_ahead_though_there_are_rings(self):
        seen = {True: 0, False: 0}
        for seed in range(12):
            dice = random.Random(seed)
            words = ["a", "b", "c"]
            made = {word: Library([], [], [], dice.sample(words, dice.choice([1, 1, 2]))) for word in words}
            world = World(made, [], "loose")
            needed = {word: needed_by(world, word) for word in words}
            starts = Starts(world, {}, {})
            for one, other in itertools.permutations(words, 2):
                # along needs from the other one, over those alone that do not need it
                behind = [other]
                for word in behind:
                    behind.extend(need for need in world.libraries()[word].needs()
                                  if need not in behind and other not in needed[need])
                if one in behind:
                    self.assertIsNone(ahead_row(starts, one, other))
                seen[one in behind] += 1
        self.assertGreater(min(seen.values()), 5, seen)


class TestExamples(unittest.TestCase):
    def test_the_example(self):
        starts = example_60()
        self.assertEqual(call_alike(self, early_row, starts), [])
        self.assertIsNone(call_alike(self, late_row, starts))
        self.assertEqual(call_alike(self, ahead_row, starts, "a", "b"), [])
        self.assertIsNone(call_alike(self, ahead_row, starts, "b", "a"))
        self.assertIsNone(ahead_row(starts=starts, one="a", other="m"))
        self.assertEqual(ahead_row(starts, "m", "m"), [])

    def test_rings_of_needs(self):
        made = {"a": Library(["f"], ["g"], [], ["b"]), "b": Library(["g"], ["f"], [], ["a"])}
        lazy = [("open", word, "lazy", "all") for word in "ab"]
        starts = Starts(World(made, [], "loose"), {"a": ["g"]}, {"a": ["g"]})
        # opened by b, a begins first and calls b, which is unbegun
        self.assertEqual(early_row(starts), [lazy[1]])
        self.assertEqual(ahead_row(starts, "a", "b"), [lazy[0]])
        self.assertEqual(ahead_row(starts, "b", "a"), [lazy[1]])
        self.assertEqual(late_row(starts), first_with(all_steps(starts, deeds_elsewhere(starts.world(), [])), ("ended",)))
        # a call of its own is neither early nor late
        alone = Starts(World({"a": Library(["f"], ["f"])}, [], "loose"), {"a": ["f"]}, {"a": ["f"]})
        self.assertIsNone(early_row(alone))
        self.assertIsNone(late_row(alone))
        self.assertEqual(ahead_row(alone, "a", "a"), [("open", "a", "lazy", "all")])

    def test_late_by_close(self):
        made = {"a": Library(["f"], [], [], ["b"]), "b": Library([], ["f"])}
        starts = Starts(World(made, [], "reached"), {}, {"b": ["f"]})
        self.assertEqual(late_row(starts), [("open", "a", "lazy", "all"), ("close", "a")])
        self.assertEqual(Course(starts, late_row(starts)).events()[-4:-1],
                         [("ends", "b"), ("last", "b", "f", ("to", "a", "ended")), ("ended", "b")])
        self.assertIsNone(early_row(starts))

    def test_errors(self):
        starts = example_60()
        for thing in [*any_objects(), "z"]:
            self.assertEqual(raised(ahead_row, starts, thing, None), ("NoLibrary", thing))
            self.assertEqual(raised(ahead_row, starts, "a", thing), ("NoLibrary", thing))

    def test_at_the_limits(self):
        made = {word: Library([name], [], [], ["h"]) for word, name in zip("abcdefg", "klmnopq")}
        made.update({"h": Library(["f"]), "a": Library(["k"], ["l"], [], ["b"]), "b": Library(["l"], [], [], ["a"])})
        world = World(made, list("hdefgc"), "reached")
        self.assertTrue(is_small(world, 150))
        starts = Starts(world, {"a": ["l"] * 4}, {"a": ["l"] * 4})
        self.assertEqual(early_row(starts), [("open", "b", "lazy", "all")])
        self.assertEqual(late_row(starts), [("open", "b", "lazy", "all"), ("close", "b")])
        self.assertIsNone(ahead_row(starts, "h", "a"))


if __name__ == "__main__":
    unittest.main()
