"""Promise 51: rows of deeds woven into one another, and races."""

import itertools
import random
import unittest

from linklines.objects import Library
from linklines.processes import Process
from linklines.weaves import race, woven
from linklines.worlds import World
from tests.tools import any_objects, call_alike, raised
from tests.world_tools import CALL, OPEN, Plain, example_52, random_row, random_world


def weaves_of(rows):
    """All weaves, ascending."""
    turns = [number for number, row in enumerate(rows) for _ in row]
    return sorted(set(itertools.permutations(turns)))


def answers_of(world, rows, weave):
    plain, done, told = Plain(world), [0] * len(rows), {}
    for number in weave:
        told[(number, done[number])] = plain.do(rows[number][done[number]])
        done[number] += 1
    return told


def plain_woven(world, rows):
    every = [answers_of(world, rows, weave) for weave in weaves_of(rows)]
    told = []
    for number, row in enumerate(rows):
        answers = [{each[(number, at)] for each in every} for at in range(len(row))]
        told.append(tuple(tuple(sorted(one for one in some if isinstance(one, str)))
                          + tuple(sorted(one for one in some if not isinstance(one, str))) for some in answers))
    return told


def are_neighbours(one, other):
    unlike = [at for at, (x, y) in enumerate(zip(one, other)) if x != y]
    if len(unlike) != 2 or unlike[1] != unlike[0] + 1:
        return False
    at = unlike[0]
    return one[at] == other[at + 1] and one[at + 1] == other[at]


def plain_race(world, rows):
    weaves = weaves_of(rows)
    told = {weave: answers_of(world, rows, weave) for weave in weaves}
    for one, other in itertools.combinations(weaves, 2):
        if are_neighbours(one, other) and told[one] != told[other]:
            return (one, other)
    return None


class TestWeaves(unittest.TestCase):
    def test_at_random(self):
        seen = {"race": 0, "none": 0, "three": 0, "both": 0}
        for seed in range(160):
            dice = random.Random(seed)
            world = random_world(seed, dice.choice([2, 3]))
            rows = [random_row(dice, world, 3) for _ in range(dice.choice([1, 2, 2, 3]))]
            if len(rows) == 3:
                rows = [row[:2] for row in rows]
            told = woven(world, rows)
            self.assertEqual(told, plain_woven(world, rows))
            found = race(world, rows)
            self.assertEqual(found, plain_race(world, rows))
            # if any two weaves have unlike answers, two neighbours do
            self.assertIs(found is None, all(len(answers) == 1 for row in told for answers in row))
            seen["none" if found is None else "race"] += 1
            seen["three"] += found is not None and len(rows) == 3
            seen["both"] += any(len({type(one) for one in answers}) == 2 for row in told for answers in row)
        self.assertGreater(min(seen.values()), 10, seen)

    def test_an_example(self):
        rows = [[OPEN, CALL], [("close", "b"), CALL]]
        told = call_alike(self, woven, example_52(), rows)
        self.assertEqual(told, [(("opened",), ("nobody", ("to", "b"))),
                                (("closed", "not open"), ("gone", "nobody", ("to", "b")))])
        self.assertEqual(call_alike(self, race, example_52(), rows), ((0, 0, 1, 1), (0, 1, 0, 1)))

    def test_tuples_stand_ascending(self):
        made = {"a": Library([], ["g"]), "b": Library(["g"]), "c": Library(["g"])}
        rows = [[("open", "c", "lazy", "all"), CALL], [("open", "b", "lazy", "all")]]
        self.assertEqual(woven(World(made, ["a"], "loose"), rows),
                         [(("opened",), (("to", "b"), ("to", "c"))), (("opened",),)])

    def test_ways_to_call(self):
        rows = [[OPEN, ("find", "b", "g")], [], [("find", "a", "f")]]
        told = woven(world=example_52(), rows=rows)
        self.assertEqual(told, [(("opened",), (("to", "b"),)), (), ((("to", "a"),),)])
        self.assertIsNone(race(world=example_52(), rows=rows))
        self.assertEqual(woven(example_52(), []), [])
        self.assertIsNone(race(example_52(), []))
        self.assertEqual(woven(example_52(), [[], ()]), [(), ()])
        self.assertIsNone(race(example_52(), [[]]))

    def test_the_lesser_weave_comes_first(self):
        # unlike only far from the first weave
        rows = [[OPEN, ("close", "b")], [("find", "a", "f"), ("find", "b", "f")]]
        self.assertEqual(race(example_52(), rows), plain_race(example_52(), rows))
        self.assertEqual(race(example_52(), rows), ((0, 1, 0, 1), (0, 1, 1, 0)))

    def test_at_the_limits(self):
        rows = [[OPEN, CALL, ("close", "b"), CALL, OPEN], [CALL, OPEN, CALL, ("close", "b"), ("find", "b", "g")]]
        self.assertEqual(woven(example_52("reached"), rows), plain_woven(example_52("reached"), [row[:5] for row in rows]))
        first, second = race(example_52(), rows)
        self.assertTrue(are_neighbours(first, second) and first < second)

    def test_bad_rows(self):
        world = example_52()
        for function in (woven, race):
            for thing in any_objects():
                if not isinstance(thing, (list, tuple)):
                    self.assertEqual(raised(function, world, thing), ("BadRows", 0))
                if not isinstance(thing, (list, tuple)) or thing:
                    self.assertEqual(raised(function, world, [[OPEN], thing, 0]), ("BadRows", 1))
                self.assertEqual(raised(function, world, [[], [OPEN, thing]]), ("BadRows", 1))
            self.assertEqual(raised(function, world, [OPEN]), ("BadRows", 0))
            self.assertEqual(raised(function, world, [[("call", "b", "g")], 0]), ("BadRows", 0))
        self.assertEqual(Process(world, [OPEN]).answers(), ["opened"])
        self.assertEqual(woven(World({}, [], "loose"), [[]]), [()])


if __name__ == "__main__":
    unittest.main()
