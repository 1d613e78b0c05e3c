"""Promises 47 and 48: all rows of deeds, bindings, who is gone or stranded; the example of 52."""

import unittest

from linklines.deeds import bindings, gone_row, many_processes, stranded_row
from linklines.objects import Library
from linklines.processes import Process
from linklines.worlds import World
from tests.tools import any_objects, call_alike, raised
from tests.world_tools import (CALL, NAMES, OPEN, RULES, all_deeds, all_plain, deeds_elsewhere, example_52,
                               plain_process, ring_52, slots_of, small_worlds)


def is_stranded(plain):
    return not set(plain.present()) <= set(plain.kept("reached"))


def plain_bindings(found, slot):
    firsts = {}
    for row, plain in found:
        tie = plain.slots.get(slot)
        if isinstance(tie, tuple):
            firsts.setdefault(tie[1], row)
        elif tie == "nobody":
            firsts.setdefault("~", row)
    return [(None if word == "~" else word, firsts[word]) for word in sorted(firsts)]


def first_ones(found, deeds):
    """The first row with the answer "gone", and the first one behind which somebody is stranded, nothing open."""
    gone, stranded = [], []
    for row, plain in found:
        gone.extend([*row, deed] for deed in deeds if deed[0] == "call" and plain.slots.get(deed[1:]) == "gone")
        if not plain.count and is_stranded(plain):
            stranded.append(list(row))
    return (gone[0] if gone else None, stranded[0] if stranded else None)


def all_slots(world):
    return [(word, name) for word, library in world.libraries().items() for name in slots_of(library)]


def has_ring(plain):
    """Whether two or more form a ring by needs and bound slots to which nobody that is firm comes."""
    leads = {word: set(plain.libs[word].needs()) | set(plain.bound(word)) for word in plain.present()}
    reached = {word for word in plain.present() if word in plain.start_list or plain.libs[word].stays()}
    for _ in leads:
        reached |= {other for word in reached for other in leads[word]}
    for word in leads:
        behind, walk = set(), leads[word] - {word}
        while walk - behind:
            behind |= walk
            walk = {other for one in behind for other in leads[one]}
        if word not in reached and any(word in leads[other] for other in behind if other != word):
            return True
    return False


class TestAllRows(unittest.TestCase):
    def test_against_all_processes(self):
        seen = {"several": 0, "nobody": 0, "gone": 0, "stranded": 0, "never": 0}
        for world in [*small_worlds(40, 160, None, 20), *small_worlds(30, 130, least=4)]:
            deeds = deeds_elsewhere(world, NAMES[:1])
            found = all_plain(world, deeds)
            self.assertEqual(many_processes(world), len(found))
            for slot in all_slots(world):
                told = bindings(world, *slot)
                self.assertEqual(told, plain_bindings(found, slot))
                seen["several"] += len(told) > 1
                seen["nobody"] += (None,) in [pair[:1] for pair in told]
                seen["never"] += told == []
            gone, stranded = first_ones(found, deeds)
            self.assertEqual(gone_row(world), gone)
            self.assertEqual(stranded_row(world), stranded)
            seen["gone"] += gone is not None
            seen["stranded"] += stranded is not None
        self.assertGreater(min(seen.values()), 2, seen)

    def test_first_rows_among_rows_of_all_deeds(self):
        # also those that open who is there from the start, and three times what is open
        for world in [*small_worlds(8, 60, 2, 6), *small_worlds(8, 60, None, 6)]:
            deeds = all_deeds(world, NAMES[:2])
            found = all_plain(world, deeds, 3, 4)
            for slot in all_slots(world):
                shown = [pair for pair in bindings(world, *slot) if len(pair[1]) <= 4]
                self.assertEqual(plain_bindings(found, slot), shown)
            gone, stranded = first_ones(found, deeds)
            if gone is not None or len(gone_row(world) or range(9)) <= 5:
                self.assertEqual(gone_row(world), gone)
            if stranded is not None or len(stranded_row(world) or range(9)) <= 4:
                self.assertEqual(stranded_row(world), stranded)

    def test_counts_tell_nothing(self):
        for world in small_worlds(12, 60, words=2, least=4):
            kept = [(plain.there, plain.search, plain.slots) for _, plain in all_plain(world, deeds_elsewhere(world))]
            for _, plain in all_plain(world, all_deeds(world), 3, 4):
                self.assertIn((plain.there, plain.search, plain.slots), kept)

    def test_rows_lead_where_they_say(self):
        for world in [*small_worlds(20, 300, 4, 20), *small_worlds(30, 300, None, 20)]:
            for word, name in all_slots(world):
                for to, row in bindings(world, word, name):
                    tie = Process(world, row).slots()[(word, name)]
                    self.assertEqual(tie, "nobody" if to is None else ("to", to))
            row = gone_row(world)
            if row is not None:
                answers = Process(world, row).answers()
                self.assertEqual((answers[-1], answers.count("gone")), ("gone", 1))
                self.assertEqual(world.rule(), "loose")
            row = stranded_row(world)
            if row is not None:
                self.assertEqual(Process(world, row).opened(), {})
                self.assertTrue(is_stranded(plain_process(world, row)))
                self.assertEqual(world.rule(), "counted")

    def test_rings_strand(self):
        seen = {True: 0, False: 0}
        for base in [*small_worlds(60, 300, None, 20), *small_worlds(15, 100, least=6)]:
            world = World(base.libraries(), base.start(), "counted")
            told = stranded_row(world)
            rings = any(has_ring(plain) for _, plain in all_plain(world, deeds_elsewhere(world, [])))
            self.assertIs(told is not None, rings)
            seen[rings] += 1
        self.assertGreater(min(seen.values()), 5, seen)

    def test_slots_that_can_be_bound_to_one_alone(self):
        seen = [0, 0, 0]
        for world in small_worlds(60, 100, least=3):
            made, first = world.libraries(), plain_process(world, []).start_list
            for word, name in all_slots(world):
                told = [to for to, _ in bindings(world, word, name)]
                tellers = [other for other in first if name in made[other].tells()]
                if made[word].own_first() and name in made[word].tells():
                    self.assertEqual(told, [word])
                    seen[0] += 1
                elif tellers:
                    self.assertEqual(told, tellers[:1])
                    seen[1] += 1
                else:
                    more = World({**made, "z": Library([name])}, world.start(), world.rule())
                    row = [("open", "z", "lazy", "all"), ("open", word, "lazy", "all"), ("call", word, name)]
                    self.assertEqual(Process(more, row).answers()[-1], ("to", "z"))
                    seen[2] += 1
        self.assertGreater(min(seen), 4, seen)


class TestExamples(unittest.TestCase):
    def test_the_example(self):
        world = example_52()
        self.assertEqual(call_alike(self, gone_row, world), [OPEN, CALL, ("close", "b"), CALL])
        self.assertEqual(call_alike(self, bindings, world, "a", "g"), [("b", (OPEN, CALL)), (None, (CALL,))])
        for rule in RULES[1:]:
            self.assertIsNone(gone_row(example_52(rule)))
        self.assertIsNone(call_alike(self, stranded_row, world))
        self.assertEqual(call_alike(self, stranded_row, ring_52()), [
            ("open", "x", "lazy", "all"), ("open", "y", "now", "all"), ("call", "x", "q"), ("close", "x"),
            ("close", "y")])
        for rule in ("loose", "reached"):
            self.assertIsNone(stranded_row(ring_52(rule)))
        self.assertEqual(call_alike(self, many_processes, world), len(all_plain(world, deeds_elsewhere(world))))

    def test_small_worlds(self):
        self.assertEqual(many_processes(World({}, [], "loose")), 1)
        self.assertEqual(many_processes(World({"a": Library(["f"])}, ["a"], "loose")), 1)
        # closed, open once or twice, by itself or for all
        self.assertEqual(many_processes(World({"a": Library([])}, [], "loose")), 5)
        never = World({"a": Library([], ["f"])}, [], "loose")
        self.assertEqual(bindings(never, "a", "f"), [])
        self.assertIsNone(gone_row(never))
        self.assertIsNone(stranded_row(World({}, [], "counted")))
        # by an open now alone, without a call
        alone = World({"a": Library(["f"], ["f"])}, [], "loose")
        self.assertEqual(bindings(alone, "a", "f"), [("a", (("open", "a", "now", "all"),))])

    def test_stranded_by_needs_that_come_back(self):
        ring = {"a": Library([], [], [], ["b"]), "b": Library([], [], [], ["a"])}
        self.assertEqual(stranded_row(World(ring, [], "counted")), [("open", "a", "lazy", "all"), ("close", "a")])
        self.assertIsNone(stranded_row(World(ring, ["a"], "counted")))
        alone = {"a": Library([], [], [], ["a"])}
        self.assertIsNone(stranded_row(World(alone, [], "counted")))

    def test_calls_stand_in_the_order_of_choices(self):
        # d comes in ahead of c, and the ring needs a call of both, and both to be closed
        made = {"b": Library(["p"], [], [], ["d"]), "c": Library(["q"], ["p", "none"]), "d": Library([], ["q", "none"])}
        self.assertEqual(stranded_row(World(made, [], "counted")), [
            ("open", "b", "lazy", "all"), ("open", "c", "lazy", "all"), ("call", "c", "p"), ("call", "d", "q"),
            ("close", "b"), ("close", "c")])

    def test_stranded_only_where_nothing_is_open(self):
        # with w open a single open binds all; but w has to be closed then, and without it is as short
        made = {"k": Library([], [], [], ["x", "y"]), "w": Library(["none"]), "x": Library(["p"], ["none", "q"]),
                "y": Library(["q"], ["p"])}
        told = stranded_row(World(made, [], "counted"))
        self.assertEqual(told, [("open", "k", "lazy", "all"), ("call", "x", "q"), ("call", "y", "p"), ("close", "k")])
        row = [("open", "w", "lazy", "all"), ("open", "k", "now", "all"), ("close", "k")]
        self.assertTrue(is_stranded(plain_process(World(made, [], "counted"), row)))

    def test_bindings_stand_by_libraries(self):
        made = {"b": Library(["g"]), "x": Library([], ["g"], [], ["z"]), "z": Library(["g"])}
        now = ("open", "x", "now", "all")
        self.assertEqual(bindings(World(made, [], "loose"), "x", "g"),
                         [("b", (("open", "b", "lazy", "all"), now)), ("z", (now,))])

    def test_errors(self):
        world = example_52()
        for thing in [*any_objects(), "c"]:
            self.assertEqual(raised(bindings, world, thing, None), ("NoLibrary", thing))
        for thing in [*any_objects(), "f", "g", "h"]:
            self.assertEqual(raised(bindings, world, "b", thing), ("NoSlot", thing))
        self.assertEqual(raised(bindings, world, "a", "h"), ("NoSlot", "h"))


if __name__ == "__main__":
    unittest.main()
