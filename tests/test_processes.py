"""Promises 44, 45 and 46: processes, deeds, who is kept; the answers of the example of 52."""

import random
import unittest

from linklines.objects import Library
from linklines.processes import Process
from linklines.worlds import World
from tests.tools import any_objects, as_lists, as_tuples, raised, spoil
from tests.world_tools import (CALL, OPEN, RULES, example_52, plain_process, random_libraries, random_row, random_world,
                               ring_52)


def told_by(process):
    return (process.there(), process.searched(), process.opened(), process.slots())


def plainly_told(plain):
    return (plain.there, plain.search, plain.count, plain.slots)


def world_of(rule, start=(), **made):
    return World(made, list(start), rule)


class TestProcesses(unittest.TestCase):
    def test_rows_at_random(self):
        seen = {}
        for seed in range(2500):
            dice = random.Random(seed)
            world = random_world(seed, dice.choice([2, 3, 3, 4]))
            row = random_row(dice, world, 20)
            process, plain = Process(world, row), plain_process(world, row)
            self.assertEqual(process.answers(), plain.answers)
            self.assertEqual(told_by(process), plainly_told(plain))
            self.assertEqual(list(process.slots()), sorted(plain.slots))
            self.assertEqual(list(process.opened()), sorted(plain.count))
            for deed, answer in zip(row, plain.answers):
                key = (deed[0], answer if isinstance(answer, str) else answer[0])
                seen[key] = seen.get(key, 0) + 1
        self.assertEqual(sorted(seen), [
            ("call", "gone"), ("call", "missing"), ("call", "nobody"), ("call", "not there"), ("call", "to"),
            ("close", "closed"), ("close", "not open"), ("find", "missing"), ("find", "not there"), ("find", "to"),
            ("open", "missing"), ("open", "opened")])
        self.assertGreater(min(seen.values()), 10, seen)

    def test_going_on_leaves_those_ahead_as_they_were(self):
        for seed in range(150):
            dice = random.Random(seed)
            world = random_world(seed, 3)
            rows = [random_row(dice, world, 6) for _ in range(3)]
            process = Process(world)
            told, kept = [], []
            for at, row in enumerate(rows):
                process = process.more(row)
                kept.append(process)
                told.append((process.answers(), *told_by(process)))
                whole = [deed for part in rows[:at + 1] for deed in part]
                self.assertEqual(process, Process(world, whole))
                self.assertEqual(process.answers(), Process(world, whole).answers())
            self.assertEqual(told, [(process.answers(), *told_by(process)) for process in kept])
            # two ways from one process
            kept[0].more(rows[2])
            self.assertEqual(told[0], (kept[0].answers(), *told_by(kept[0])))

    def test_rows_of_sixty_deeds(self):
        for seed in range(6):
            dice = random.Random(seed)
            world = World(random_libraries(dice, list("abcdefgh"), list("klmnopqr"), 6), ["c"], dice.choice(RULES))
            row = [*random_row(dice, world, 60), *random_row(dice, world, 60)][:60]
            self.assertEqual(len(row), 60)
            plain = plain_process(world, row)
            self.assertEqual(Process(world, row).answers(), plain.answers)
            self.assertEqual(told_by(Process(world, row)), plainly_told(plain))

    def test_what_is_told_is_new(self):
        process = Process(example_52(), [OPEN, CALL])
        told = (process.answers(), *told_by(process))
        for thing in (process.answers(), *told_by(process)):
            spoil(thing)
        self.assertEqual(told, (process.answers(), *told_by(process)))
        row = [list(OPEN), list(CALL)]
        process = Process(world=example_52(), row=row)
        row[0][1] = "a"
        row.append(OPEN)
        self.assertEqual(told, (process.answers(), *told_by(process)))
        self.assertEqual(row, [["open", "a", "lazy", "all"], list(CALL), OPEN])

    def test_lists_and_tuples(self):
        row = [OPEN, CALL, ("find", "b", "g"), ("close", "b")]
        first = Process(example_52(), row)
        for other in (as_lists(row), as_tuples(row)):
            self.assertEqual(Process(example_52(), other), first)
            self.assertEqual(Process(example_52()).more(other), first)
            self.assertEqual(Process(example_52()).more(row=other).answers(), first.answers())
        self.assertEqual([type(part) for part in first.answers()], [str, tuple, tuple, str])
        self.assertEqual([(type(pair), type(pair[1])) for pair in first.there()], [(tuple, tuple)])

    def test_ahead_of_any_deed(self):
        process = Process(world_of("loose", "b", a=Library(["f"], ["g"]), b=Library([], ["f"], ["g"], ["a"]), c=Library([])))
        self.assertEqual(process.there(), [("b", ("b", "a")), ("a", ("b", "a"))])
        self.assertEqual(process.searched(), ["b", "a"])
        self.assertEqual(process.opened(), {})
        self.assertEqual(process.slots(), {("a", "g"): "free", ("b", "f"): "free", ("b", "g"): "free"})
        self.assertEqual(process.answers(), [])
        self.assertEqual(list(process.slots()), [("a", "g"), ("b", "f"), ("b", "g")])

    def test_equality(self):
        world = example_52()
        process = Process(world, [OPEN, CALL])
        # answers do not count
        self.assertEqual(process, Process(example_52(), [OPEN, ("find", "a", "f"), CALL, CALL]))
        for other in [Process(world, [OPEN]), Process(world, [OPEN, CALL, OPEN]), Process(world, [CALL, OPEN]),
                      Process(world, [OPEN[:3] + ("own",), CALL]), Process(example_52("counted"), [OPEN, CALL]),
                      Process(world, [OPEN, CALL, ("close", "b")]), world, *any_objects()]:
            self.assertFalse(process == other)
            self.assertTrue(process != other)
        # homes, and the order in which they came, count
        made = {"a": Library([], [], [], ["b"]), "b": Library([]), "c": Library([])}
        world = World(made, [], "loose")
        one = Process(world, [("open", "a", "lazy", "own"), ("open", "b", "lazy", "own")])
        other = Process(world, [("open", "b", "lazy", "own"), ("open", "a", "lazy", "own")])
        self.assertFalse(one == other)


class TestDeeds(unittest.TestCase):
    def test_the_example(self):
        for rule in RULES:
            last = {"loose": "gone"}.get(rule, ("to", "b"))
            self.assertEqual(Process(example_52(rule), [OPEN, CALL, ("close", "b"), CALL]).answers(),
                             ["opened", ("to", "b"), "closed", last])
        self.assertEqual(Process(example_52(), [CALL, OPEN, CALL]).answers(), ["nobody", "opened", "nobody"])

    def test_opening(self):
        made = {"a": Library(["f"], [], [], ["b"]), "b": Library(["g"], ["f"], [], ["c"]), "c": Library(["f"])}
        own, every = ("open", "a", "lazy", "own"), ("open", "a", "lazy", "all")
        process = Process(World(made, ["c"], "loose"), [own])
        self.assertEqual(process.there(), [("c", ("c",)), ("a", ("a", "b", "c")), ("b", ("a", "b", "c"))])
        self.assertEqual(process.searched(), ["c"])
        self.assertEqual(process.opened(), {"a": 1})
        # those of the group that are there already are put on the search list, too
        process = process.more([every])
        self.assertEqual(process.searched(), ["c", "a", "b"])
        self.assertEqual(process.opened(), {"a": 2})
        self.assertEqual(process.there()[1:], [("a", ("a", "b", "c")), ("b", ("a", "b", "c"))])
        self.assertEqual(process.more([("close", "a")]).opened(), {"a": 1})
        self.assertEqual(process.more([("close", "a")]).searched(), ["c", "a", "b"])
        self.assertEqual(process.more([("close", "a"), ("close", "a")]).there(), [("c", ("c",))])

    def test_opening_now(self):
        made = {"a": Library(["f"], ["f", "g"], ["h"]), "b": Library([], ["h"], ["g"], ["a"]), "c": Library(["g", "h"])}
        world = World(made, [], "loose")
        now = ("open", "b", "now", "all")
        process = Process(world, [now])
        self.assertEqual(process.answers(), [("missing", "b", "h")])
        self.assertEqual(process, Process(world))
        process = Process(world, [("open", "a", "now", "own")])
        self.assertEqual(process.answers(), [("missing", "a", "g")])
        self.assertEqual(process, Process(world))
        process = Process(world, [("open", "c", "now", "all"), now])
        self.assertEqual(process.answers(), ["opened", "opened"])
        self.assertEqual(process.slots(), {("a", "f"): ("to", "a"), ("a", "g"): ("to", "c"), ("a", "h"): ("to", "c"),
                                           ("b", "g"): ("to", "c"), ("b", "h"): ("to", "c")})
        # who is there already is not bound by it
        process = Process(world, [("open", "a", "lazy", "own"), ("open", "c", "now", "all"), ("open", "a", "now", "all")])
        self.assertEqual(set(process.slots().values()), {"free"})
        self.assertEqual(process.answers(), ["opened"] * 3)

    def test_the_first_one_that_tells(self):
        made = {"own": Library(["f"], ["f"], [], [], True), "other": Library(["f"], ["f"], [], ["near"]),
                "near": Library(["f", "g"]), "far": Library(["f", "g"]), "lone": Library([], ["f", "g"], [], ["near"])}
        first, lone = ("open", "far", "lazy", "all"), ("open", "lone", "lazy", "own")
        world = World(made, [], "loose")
        slots = Process(world, [first, ("open", "own", "now", "all"), ("open", "other", "now", "all")]).slots()
        self.assertEqual(slots, {("own", "f"): ("to", "own"), ("other", "f"): ("to", "far")})
        # the search list, then the home
        self.assertEqual(Process(world, [lone, ("call", "lone", "f"), first, ("call", "lone", "g")]).answers()[1::2],
                         [("to", "near"), ("to", "far")])

    def test_of_the_home_only_those_who_are_there(self):
        made = {"a": Library(["f"], [], [], ["b"]), "b": Library([], ["f"], [], ["c"]), "c": Library(["f"])}
        rows = [("open", "a", "lazy", "own"), ("open", "b", "lazy", "own"), ("close", "a"), ("call", "b", "f")]
        process = Process(World(made, [], "loose"), rows)
        self.assertEqual(process.there(), [("b", ("a", "b", "c")), ("c", ("a", "b", "c"))])
        self.assertEqual(process.answers()[-1], ("to", "c"))

    def test_calling(self):
        process = Process(example_52())
        self.assertEqual(process.more([("find", "b", "f"), ("close", "b"), ("close", "a")]).answers(),
                         ["not there", "not open", "not open"])
        made = {"a": Library([], ["f"], ["g"]), "b": Library(["f", "g"])}
        world = World(made, ["a"], "loose")
        want, ask = ("call", "a", "f"), ("call", "a", "g")
        self.assertEqual(Process(world, [want, ask, OPEN, want, ask]).answers(),
                         ["missing", "nobody", "opened", ("to", "b"), "nobody"])
        self.assertEqual(Process(World(made, [], "loose"), [want]).answers(), ["not there"])
        self.assertEqual(Process(world, [want]).slots(), {("a", "f"): "free", ("a", "g"): "free"})
        self.assertEqual(Process(world, [OPEN, want, ("close", "b"), OPEN, want, ask]).answers()[-2:],
                         ["gone", ("to", "b")])

    def test_finding(self):
        made = {"a": Library([], ["f"], [], ["b", "c"]), "b": Library(["g"]), "c": Library(["f", "g"]),
                "d": Library(["h"], ["f"])}
        world = World(made, ["a", "d"], "loose")
        answers = Process(world, [("find", "a", "g"), ("find", "a", "f"), ("find", "a", "h"), ("find", "d", "h"),
                                  ("find", "b", "f"), ("find", "a", "zzzzzzzz")]).answers()
        self.assertEqual(answers, [("to", "b"), ("to", "c"), "missing", ("to", "d"), "missing", "missing"])
        self.assertEqual(Process(world, [("find", "a", "f")]), Process(world))

    def test_who_comes_in_again_is_a_new_one(self):
        made = {"a": Library(["f"], ["g"]), "b": Library(["g"], ["f"]), "m": Library([], ["f"])}
        world = World(made, ["m"], "loose")
        row = [("open", "a", "lazy", "all"), ("open", "b", "lazy", "all"), ("call", "a", "g"), ("call", "m", "f"),
               ("close", "a"), ("open", "a", "lazy", "all")]
        process = Process(world, row)
        self.assertEqual([word for word, _ in process.there()], ["m", "b", "a"])
        self.assertEqual(process.searched(), ["m", "b", "a"])
        self.assertEqual(process.slots(), {("a", "g"): "free", ("b", "f"): "free", ("m", "f"): "gone"})


class TestKeeping(unittest.TestCase):
    def test_facts(self):
        seen = {"loose": 0, "reached": 0}
        for seed in range(1500):
            dice = random.Random(seed)
            world = random_world(seed, 4)
            plain = plain_process(world, random_row(dice, world, 14))
            lots = {rule: set(plain.kept(rule)) for rule in RULES}
            self.assertLessEqual(lots["loose"], lots["reached"])
            self.assertLessEqual(lots["reached"], lots["counted"])
            seen["loose"] += lots["loose"] < lots["reached"]
            seen["reached"] += lots["reached"] < lots["counted"]
            for word in plain.present():
                self.assertLessEqual(set(plain.group([word])), set(plain.present()))
        self.assertGreater(min(seen.values()), 3, seen)

    def left(self, rule, row, start=(), **made):
        return [word for word, _ in Process(World(made, list(start), rule), row).there()]

    def test_loose_lets_go_who_is_only_bound_to(self):
        row = [OPEN, CALL, ("close", "b")]
        made = {"a": Library([], [], ["g"]), "b": Library(["g"], [], [], ["c"]), "c": Library([])}
        self.assertEqual(self.left("loose", row, "a", **made), ["a"])
        # with the one who is bound to its group is kept
        self.assertEqual(self.left("reached", row, "a", **made), ["a", "b", "c"])
        self.assertEqual(self.left("counted", row, "a", **made), ["a", "b", "c"])

    def test_who_stays_keeps_its_group(self):
        for rule in RULES:
            made = {"a": Library([], [], [], ["b"], False, True), "b": Library([]), "c": Library([], [], [], ["a"])}
            row = [("open", "c", "lazy", "all"), ("close", "c")]
            self.assertEqual(self.left(rule, row, **made), ["a", "b"])
            made["a"] = Library([], [], [], ["b"])
            self.assertEqual(self.left(rule, row, **made), [])

    def test_rings_of_needs_are_kept_by_counting_alone(self):
        made = {"a": Library([], [], [], ["b"]), "b": Library([], [], [], ["a"])}
        row = [("open", "a", "lazy", "all"), ("close", "a")]
        self.assertEqual(self.left("counted", row, **made), ["a", "b"])
        self.assertEqual(self.left("reached", row, **made), [])
        self.assertEqual(self.left("loose", row, **made), [])
        # who needs itself, or is bound to itself, is not kept by that
        made = {"a": Library(["f"], ["f"], [], ["a"])}
        row = [("open", "a", "now", "all"), ("close", "a")]
        for rule in RULES:
            self.assertEqual(self.left(rule, row, **made), [])

    def test_rings_of_bound_slots_are_kept_by_counting_alone(self):
        row = [("open", "x", "lazy", "all"), ("open", "y", "now", "all"), ("call", "x", "q"), ("close", "x"), ("close", "y")]
        self.assertEqual([word for word, _ in Process(ring_52(), row).there()], ["x", "y"])
        for rule in ("loose", "reached"):
            self.assertEqual(Process(ring_52(rule), row).there(), [])

    def test_reach_goes_on_from_who_is_reached(self):
        made = {"m": Library([], ["f"]), "a": Library(["f"], ["g"]), "b": Library(["g"], [], [], ["c"]), "c": Library([])}
        row = [("open", "b", "lazy", "all"), ("open", "a", "now", "all"), ("call", "m", "f"), ("close", "b"), ("close", "a")]
        self.assertEqual(self.left("reached", row, "m", **made), ["m", "b", "c", "a"])
        self.assertEqual(self.left("loose", row, "m", **made), ["m"])
        # from the first row on nobody reaches a without the call
        self.assertEqual(self.left("reached", row[:2] + row[3:], "m", **made), ["m"])

    def test_one_that_is_open_often(self):
        process = Process(example_52(), [OPEN, OPEN, OPEN, ("close", "b")])
        self.assertEqual(process.opened(), {"b": 2})
        process = process.more([("close", "b"), ("close", "b"), ("close", "b")])
        self.assertEqual(process.answers()[-3:], ["closed", "closed", "not open"])
        self.assertEqual(process, Process(example_52()))
        # who is there from the start can be opened and closed, and stays
        process = Process(example_52(), [("open", "a", "now", "own"), ("close", "a"), ("close", "a")])
        self.assertEqual(process.answers(), ["opened", "closed", "not open"])
        self.assertEqual(process, Process(example_52()))


class TestErrors(unittest.TestCase):
    def test_bad_deeds(self):
        world = example_52()
        process = Process(world, [OPEN])
        for function in (lambda row: Process(world, row), process.more):
            for thing in any_objects():
                if not isinstance(thing, (list, tuple)):
                    self.assertEqual(raised(function, thing), ("BadDeed", 0))
                self.assertEqual(raised(function, [OPEN, thing, 0]), ("BadDeed", 1))
                for deed in (OPEN, CALL, ("close", "b"), ("find", "b", "g")):
                    for at in range(len(deed)):
                        spoilt = (*deed[:at], thing, *deed[at + 1:])
                        self.assertEqual(raised(function, [CALL, spoilt]), ("BadDeed", 1), spoilt)
            for thing in [OPEN[:3], (*OPEN, "all"), ("open", "b", "all", "lazy"), ("open", "b", "later", "all"),
                          ("close",), ("close", "c"), ("close", "b", "b"), ("call", "b", "g"), ("call", "a", "h"),
                          ("call", "c", "g"), ("call", "a"), (*CALL, "g"), ("find", "a"), ("find", "c", "g"),
                          ("find", "a", "G"), ("find", "a", "a" * 9), ("find", "a", "g", "g"), ("shut", "b"), "close"]:
                self.assertEqual(raised(function, [OPEN, CALL, thing]), ("BadDeed", 2), thing)
        self.assertEqual(process, Process(world, [OPEN]))
        self.assertEqual(process.answers(), ["opened"])

    def test_any_word_can_be_found(self):
        self.assertEqual(Process(example_52(), [("find", "a", "zz")]).answers(), ["missing"])


if __name__ == "__main__":
    unittest.main()
