"""Promises 49 and 50: steady slots, worlds that part; the example of 52."""

import unittest

from linklines.deeds import many_processes
from linklines.objects import Library
from linklines.processes import Process
from linklines.steady import parting_row, unsteady_rows
from linklines.worlds import World
from tests.tools import any_objects, call_alike, raised
from tests.world_tools import (NAMES, OPEN, RULES, Plain, all_deeds, all_plain, deeds_elsewhere, example_52, slots_of,
                               small_worlds)


def to_come(plain, slot):
    """The would-be answer of a slot, None where it is not there or not free."""
    if plain.slots.get(slot) != "free":
        return None
    return plain.copy().call(*slot)


def all_slots(world):
    return [(word, name) for word, library in world.libraries().items() for name in slots_of(library)]


def order_of(pair):
    row, more = pair
    return (len(row) + len(more), len(row), row, len(more), more)


def plain_unsteady(world, deeds, slot, most):
    """The first pair of rows with so many deeds at most, among all rows whatever."""
    found = []

    def walk(plain, row, cuts):
        worth = to_come(plain, slot)
        cuts = [] if worth is None else [*cuts, (len(row), worth)]
        found.extend((row[:at], row[at:]) for at, ahead in cuts if ahead != worth)
        if len(row) < most:
            for deed in deeds:
                later = plain.copy()
                later.do(deed)
                walk(later, (*row, deed), cuts)

    walk(Plain(world), (), [])
    return min(found, key=order_of, default=None)


def plain_graph(world):
    """All processes with their first rows, and for each the pairs (deed, number of what it leads to)."""
    deeds = deeds_elsewhere(world, [])
    found = all_plain(world, deeds)
    numbers = {plain.key(): number for number, (_, plain) in enumerate(found)}
    steps = []
    for _, plain in found:
        steps.append([])
        for deed in deeds:
            if deed[0] != "open" or plain.count.get(deed[1], 0) < 2:
                later = plain.copy()
                later.do(deed)
                steps[-1].append((deed, numbers[later.key()]))
    return found, steps


def reached_unsteady(graph, slot):
    """The first pair of rows, along all processes."""
    found, steps = graph
    worths = [to_come(plain, slot) for _, plain in found]
    pairs = []
    for origin, (row, _) in enumerate(found):
        ways, waiting = {origin: ()}, [origin] if worths[origin] is not None else []
        for number in waiting:
            for deed, target in steps[number]:
                if target not in ways and worths[target] is not None:
                    ways[target] = (*ways[number], deed)
                    waiting.append(target)
        pairs.extend((row, more) for number, more in ways.items() if worths[number] != worths[origin])
    return min(pairs, key=order_of, default=None)


class TestSteadySlots(unittest.TestCase):
    def test_among_all_rows(self):
        seen = {"steady": 0, "at once": 0, "later": 0}
        for world in [*small_worlds(10, 40, 2, 4), *small_worlds(8, 60, None, 6), *small_worlds(2, 200, None, 60)]:
            deeds = all_deeds(world, NAMES[:1])
            for slot in all_slots(world):
                wanted = plain_unsteady(world, deeds, slot, 3 if len(deeds) < 22 else 2)
                told = unsteady_rows(world, *slot)
                most = 3 if len(deeds) < 22 else 2
                if wanted is not None or told is not None and len(told[0]) + len(told[1]) <= most:
                    self.assertEqual(told, wanted)
                seen["steady" if told is None else "later" if told[0] else "at once"] += 1
        self.assertGreater(min(seen.values()), 1, seen)

    def test_along_all_processes(self):
        seen = {"none": 0, "at once": 0, "late": 0}
        for world in [*small_worlds(30, 100, least=8), *small_worlds(12, 200, None, 60)]:
            graph = plain_graph(world)
            for slot in all_slots(world):
                told = unsteady_rows(world, *slot)
                self.assertEqual(told, reached_unsteady(graph, slot))
                seen["none" if told is None else "late" if told[0] else "at once"] += 1
        self.assertGreater(min(seen.values()), 2, seen)

    def test_now_for_lazy(self):
        seen = {True: 0, False: 0}
        for world in [*small_worlds(50, 60, least=4), *small_worlds(30, 70, None, 6)]:
            first = Plain(world).start_list
            slots = [slot for slot in all_slots(world) if slot[0] not in first]
            is_missing = any(to_come(plain, slot) == "missing" for slot in slots
                             for _, plain in all_plain(world, deeds_elsewhere(world, [])))
            is_same = not is_missing and all(unsteady_rows(world, *slot) is None for slot in slots)
            self.assertIs(self.can_be_put(world), is_same)
            seen[is_same] += bool(slots)
        self.assertGreater(min(seen.values()), 4, seen)

    def can_be_put(self, world):
        """Whether no answer changes, in all rows, where each lazy open is done now."""
        waiting = [(Plain(world), Plain(world))]
        met = {waiting[0][0].key() * 2}
        while waiting:
            one, other = waiting.pop()
            for deed in deeds_elsewhere(world, NAMES):
                if deed[0] == "open" and one.count.get(deed[1], 0) == 2:
                    continue
                first, second = one.copy(), other.copy()
                now = (*deed[:2], "now", deed[3]) if deed[0] == "open" else deed
                if first.do(deed) != second.do(now):
                    return False
                if first.key() + second.key() not in met:
                    met.add(first.key() + second.key())
                    waiting.append((first, second))
        return True

    def test_the_example(self):
        world = example_52()
        self.assertEqual(call_alike(self, unsteady_rows, world, "a", "g"), ((), (OPEN,)))
        self.assertIsNone(call_alike(self, unsteady_rows, world, "a", "f"))

    def test_the_slot_is_there_and_free_all_along(self):
        # b can be bound to who is there when it comes; a call ends it, and leaving too
        made = {"a": Library(["f"]), "b": Library(["f"], ["f"], [], [], True), "c": Library([], [], ["f"])}
        world = World(made, [], "loose")
        self.assertIsNone(unsteady_rows(world, "b", "f"))
        lazy = [("open", word, "lazy", "all") for word in "abc"]
        self.assertEqual(unsteady_rows(world, "c", "f"), ((lazy[2],), (lazy[0],)))

    def test_errors(self):
        world = example_52()
        for thing in [*any_objects(), "c"]:
            self.assertEqual(raised(unsteady_rows, world, thing, None), ("NoLibrary", thing))
        for thing in [*any_objects(), "h"]:
            self.assertEqual(raised(unsteady_rows, world, "a", thing), ("NoSlot", thing))
        self.assertEqual(raised(unsteady_rows, world, "b", "f"), ("NoSlot", "f"))


def plain_parting(one, other, names, most_open=3, most_rows=99):
    """The first row with unlike answers, among rows of all deeds."""
    deeds = all_deeds(one, names)
    first = (Plain(one), Plain(other))
    waiting, met = [((), *first)], {first[0].key() + first[1].key()}
    while waiting:
        row, left, right = waiting.pop(0)
        if len(row) >= most_rows:
            return None
        for deed in deeds:
            if deed[0] == "open" and left.count.get(deed[1], 0) >= most_open:
                continue
            first, second = left.copy(), right.copy()
            if first.do(deed) != second.do(deed):
                return [*row, deed]
            if first.key() + second.key() not in met:
                met.add(first.key() + second.key())
                waiting.append(((*row, deed), first, second))
    return None


def changed_world(world, at):
    """A world with the same libraries by name and slots that differs somewhere."""
    made, words = world.libraries(), list(world.libraries())
    word = words[at % len(words)]
    kept = made[word]
    refs = (kept.wants(), kept.asks(), kept.needs())
    tells = kept.tells()
    if at % 7 == 0:
        made[word] = Library(tells, refs[0], refs[1], refs[2], not kept.own_first(), kept.stays())
    elif at % 7 == 1:
        made[word] = Library([name for name in NAMES if name not in tells][:1], *refs, kept.own_first(), kept.stays())
    elif at % 7 == 2:
        made[word] = Library(tells, refs[1], refs[0], refs[2], kept.own_first(), kept.stays())
    elif at % 7 == 3:
        made[word] = Library(tells, refs[0], refs[1], words[:1] if not refs[2] else [], kept.own_first(), kept.stays())
    elif at % 7 == 4:
        made[word] = Library(tells, *refs, kept.own_first(), not kept.stays())
    start = world.start()
    if at % 7 == 5:
        start = start[1:] if start else words[-1:]
    rule = RULES[(RULES.index(world.rule()) + 1 + at % 2) % 3] if at % 7 == 6 else world.rule()
    return World(made, start, rule)


class TestPartingRows(unittest.TestCase):
    def test_against_all_rows(self):
        seen = {"none": 0, "call": 0, "find": 0, "open": 0, "close": 0, "long": 0}
        for at, world in enumerate([*small_worlds(63, 60, 2, 4), *small_worlds(35, 100, None, 6)]):
            other = changed_world(world, at)
            told = parting_row(world, other)
            self.assertEqual(told, plain_parting(world, other, ["a", *NAMES], 2))
            self.assertEqual(told, parting_row(other, world))
            seen["none" if told is None else told[-1][0]] += 1
            seen["long"] += told is not None and len(told) > 2
        self.assertEqual(seen.pop("close"), 0)
        self.assertGreater(min(seen.values()), 1, seen)

    def test_more_opens_part_nothing(self):
        for at, world in enumerate(small_worlds(21, 30, 2, 4)):
            other = changed_world(world, at)
            told = parting_row(world, other)
            wanted = plain_parting(world, other, ["a", *NAMES], 3, 3)
            if wanted is not None or told is not None and len(told) <= 3:
                self.assertEqual(told, wanted)

    def test_only_the_last_answers_are_unlike(self):
        for at, world in enumerate([*small_worlds(20, 200, 3, 10), *small_worlds(20, 200, None, 20)]):
            other = changed_world(world, at)
            told = parting_row(world, other)
            if told is not None:
                one, two = Process(world, told).answers(), Process(other, told).answers()
                self.assertEqual(one[:-1], two[:-1])
                self.assertNotEqual(one[-1], two[-1])
                if told[-1][0] == "open":
                    came = [len(Process(each, told[:-1]).there()) for each in (world, other)]
                    groups = [set(each.group(told[-1][1])) for each in (world, other)]
                    there = [{word for word, _ in Process(each, told[:-1]).there()} for each in (world, other)]
                    self.assertTrue(groups[0] - there[0] or groups[1] - there[1], came)

    def test_the_example_by_other_rules(self):
        row = [OPEN, ("call", "a", "g"), ("close", "b"), ("call", "a", "g")]
        self.assertEqual(call_alike(self, parting_row, example_52(), example_52("counted")), row)
        self.assertEqual(parting_row(one=example_52("reached"), other=example_52()), row)
        self.assertIsNone(call_alike(self, parting_row, example_52("reached"), example_52("counted")))
        self.assertIsNone(parting_row(example_52(), example_52()))

    def test_who_is_there_in_one_alone(self):
        made = {"k": Library(["f"])}
        there, away = World(made, ["k"], "loose"), World(made, [], "loose")
        self.assertEqual(parting_row(there, away), [("find", "k", "a")])
        self.assertEqual(parting_row(away, there), [("find", "k", "a")])
        # two that tell unlike names, which only a find tells apart
        self.assertEqual(parting_row(away, World({"k": Library(["g"])}, [], "loose")),
                         [("open", "k", "lazy", "all"), ("find", "k", "f")])
        self.assertEqual(parting_row(there, World({"k": Library(["a", "f"])}, ["k"], "loose")), [("find", "k", "a")])
        self.assertIsNone(parting_row(there, World({"k": Library(["f"], stays=True)}, ["k"], "counted")))

    def test_unlike_worlds(self):
        world = example_52()
        made = world.libraries()
        for libraries in ({"a": made["a"]}, {**made, "c": Library([])}, {"a": made["a"], "c": made["b"]},
                          {**made, "b": Library(["f", "g"], ["f"])}, {**made, "a": Library(["f"], ["f"])},
                          {**made, "a": Library(["f"], ["f", "h"])}):
            other = World(libraries, ["a"], "loose")
            self.assertEqual(raised(parting_row, world, other), ("UnlikeWorlds",))
            self.assertEqual(raised(parting_row, other, world), ("UnlikeWorlds",))
        # to want is as good as to ask, also where a library does both
        pair = [World({"a": Library([], refs, [name])}, [], "loose") for refs, name in ((["f"], "g"), (["g"], "f"))]
        self.assertEqual(parting_row(*pair), [("open", "a", "now", "all")])
        self.assertEqual([Process(world, parting_row(*pair)).answers()[0][2] for world in pair], ["f", "g"])
        self.assertIsNone(raised(parting_row, world, World({**made, "a": Library([], [], ["f", "g"])}, [], "loose")))


class TestLimits(unittest.TestCase):
    def test_eight_libraries(self):
        made = {word: Library([name], [], ["z"] if word < "d" else [], ["h"]) for word, name in zip("abcdefg", "klmnopq")}
        made["h"] = Library(["f"], [], ["z", "k"])
        made["a"] = Library(["k"], [], ["z"], [], False, True)
        world = World(made, list("hbcdefg"), "counted")
        self.assertTrue(150 < many_processes(world) <= 300)
        self.assertEqual(unsteady_rows(world, "h", "k"), ((), (("open", "a", "lazy", "all"),)))
        self.assertIsNone(unsteady_rows(world, "a", "z"))
        self.assertIsNone(parting_row(world, World(made, list("hbcdefg"), "reached")))


if __name__ == "__main__":
    unittest.main()
