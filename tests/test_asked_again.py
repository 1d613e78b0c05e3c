"""What is asked of the same releases and worlds many times, in turns with others, is told the same, and soon."""

import random
import time
import unittest

from linklines.bundles import ahead, bundles, how_many_orders, is_order
from linklines.clients import lasting, served, stands_for
from linklines.counting import count_orders
from linklines.deeds import bindings, gone_row, many_processes, stranded_row
from linklines.early import ahead_row, early_row, late_row
from linklines.links import is_link, is_why, why
from linklines.objects import Library
from linklines.processes import Process
from linklines.releases import Releases, unsteady
from linklines.starts import Starts
from linklines.states import good_above, good_below, is_good, upgraded
from linklines.steady import parting_row, unsteady_rows
from linklines.worlds import World
from tests.release_tools import all_states, good_states, steady_made, unsteady_example
from tests.tools import raised, rebuilt, spoil
from tests.world_tools import RULES, busy_world, random_world


def answer(function, *args):
    """What a call tells, or the error that it raises."""
    error = raised(function, *args)
    return ("error", *error) if error else ("told", function(*args))


def release_calls(made, dice):
    """Calls that are asked of releases."""
    states = list(all_states(made))
    goods = good_states(made)
    picks = dice.sample(states, min(4, len(states))) + dice.sample(goods, min(3, len(goods))) + [{}, None]
    calls = [(unsteady,)]
    for state in picks:
        calls.extend([(is_good, state), (good_above, state), (good_below, state), (upgraded, state, {"a": 1}),
                      (served, state, []), (lasting, state, [])])
        for goal in picks:
            calls.extend([(bundles, state, goal), (ahead, state, goal), (how_many_orders, state, goal),
                          (is_order, state, goal, [0, 1]), (why, state, goal, 0), (is_why, state, goal, 0, [])])
    return [*calls, (stands_for, "a", 1, 1), (is_link, ("a", 1, "b", 1, ("wants", "x", "u")))]


class TestReleases(unittest.TestCase):
    def test_asked_in_turns(self):
        for at, made in enumerate(steady_made(25)):
            dice = random.Random(at)
            releases, others = Releases(made), Releases(unsteady_example())
            calls = release_calls(made, dice)
            # releases of which nothing was asked yet tell what is right
            fresh = [answer(call[0], Releases(made), *call[1:]) for call in calls]
            order = list(range(len(calls))) * 2
            dice.shuffle(order)
            for number in order:
                told = answer(calls[number][0], releases, *calls[number][1:])
                self.assertEqual(told, fresh[number])
                if told[0] == "told":
                    spoil(told[1])
                    for part in told[1] if isinstance(told[1], list) else []:
                        spoil(part)
                self.assertEqual(raised(is_good, others, None), ("Unsteady",))
            self.assertEqual(releases, Releases(made))
            self.assertEqual(rebuilt(releases), releases)

    def test_many_states_are_answered_soon(self):
        made = {word: [([(name, "u") for name in "klmnop"],
                        [(other, name, "u") for other in "abcdef" if other != word for name in "kl"][:6]) for _ in range(8)]
                for word in "abcdef"}
        releases = Releases(made)
        begin = time.perf_counter()
        states = [dict(zip("abcdef", (1 + at % 8, 1 + at // 8 % 8, 1 + at // 64 % 8, 3, 4, 5))) for at in range(2000)]
        self.assertTrue(all(is_good(releases, state) for state in states))
        ones, eights = dict.fromkeys("abcdef", 1), dict.fromkeys("abcdef", 8)
        for number in range(42):
            why(releases, ones, eights, number)
        self.assertEqual(len(bundles(releases, ones, eights)), 42)
        self.assertEqual(how_many_orders(releases, ones, eights), 85722533226982363751829504000)
        # all of it took many seconds where each call looked at all releases anew
        self.assertLess(time.perf_counter() - begin, 1)

    def test_orders_counted(self):
        def plainly(barred, done=0):
            if done == (1 << len(barred)) - 1:
                return 1
            return sum(plainly(barred, done | 1 << number) for number, ahead_of_it in enumerate(barred)
                       if not done & 1 << number and done & ahead_of_it == ahead_of_it)
        for seed in range(60):
            dice = random.Random(seed)
            barred = [sum(1 << other for other in range(number) if dice.random() < 0.25) for number in range(dice.randint(0, 7))]
            self.assertEqual(count_orders(barred), plainly(barred))


def world_calls(world, other):
    calls = [(many_processes,), (gone_row,), (stranded_row,)]
    for library, held in world.libraries().items():
        for name in [*held.wants(), *held.asks()]:
            calls.extend([(bindings, library, name), (unsteady_rows, library, name)])
    return [*calls, (parting_row, other), (parting_row, world), (parting_row, rebuilt(world)), (bindings, "no", "a")]


class TestWorlds(unittest.TestCase):
    def test_asked_in_turns(self):
        for seed in range(24):
            dice = random.Random(seed)
            world = random_world(seed, 2, 1) if seed % 2 else busy_world(seed)
            if many_processes(rebuilt(world)) > 150:
                continue
            other = World(world.libraries(), world.start(), dice.choice(RULES))
            calls = world_calls(world, other)
            fresh = [answer(call[0], rebuilt(world), *[rebuilt(thing) for thing in call[1:]]) for call in calls]
            order = list(range(len(calls))) * 2
            dice.shuffle(order)
            for number in order:
                told = answer(calls[number][0], world, *calls[number][1:])
                self.assertEqual(told, fresh[number])
                if told[0] == "told":
                    spoil(told[1])
                many_processes(other)
                raised(parting_row, other, world)
            self.assertEqual(world, rebuilt(world))
            self.assertEqual(Process(world), Process(rebuilt(world)))

    def test_starts_of_one_world(self):
        world = World({"m": Library([], [], [], ["a"]), "a": Library(["f"], ["g"], [], ["b"]),
                       "b": Library(["g"], [], ["f"], ["a"])}, ["m"], "reached")
        one, other = Starts(world, {"a": ["g"], "b": ["f"]}, {}), Starts(world, {}, {"a": ["g"]})
        for _ in range(2):
            self.assertEqual(early_row(one), [])
            self.assertIsNone(early_row(other))
            self.assertIsNone(late_row(other))
            self.assertEqual(ahead_row(one, "m", "a"), [])
            self.assertEqual(many_processes(world), many_processes(rebuilt(world)))

    def test_many_slots_are_answered_soon(self):
        world = World({"a": Library(["f"], ["f"], ["g"]), "b": Library(["f", "g"], [], ["h"]),
                       "c": Library(["g", "h"], ["f"], [], ["b"])}, ["a"], "loose")
        self.assertEqual(many_processes(world), 3426)
        slots = [("a", "f"), ("a", "g"), ("b", "h"), ("c", "f")]
        told = [(bindings(world, *slot), unsteady_rows(world, *slot)) for slot in slots]
        begin = time.perf_counter()
        for _ in range(50):
            self.assertEqual([(bindings(world, *slot), unsteady_rows(world, *slot)) for slot in slots], told)
            self.assertEqual(many_processes(world), 3426)
            stranded_row(world)
            gone_row(world)
            self.assertIsNone(parting_row(world, world))
        # each of these took more than a tenth of a second where it went through all processes anew
        self.assertLess(time.perf_counter() - begin, 2)


if __name__ == "__main__":
    unittest.main()
