"""Promises 73 to 75 and their part of the example of 77: reaches over all sizes, bounds, what stays."""

import itertools
import random
import unittest

from linklines.plans import Plan, earliest
from linklines.reaches import bounds_hold, far_sizes, greatest_bounds, least_moves, reaches, steady
from tests.plan_tools import example_77, random_plan
from tests.tools import any_objects, call_alike, raised


def all_sizes(plan):
    return list(itertools.product(*[range(part[3], part[4] + 1) for part in plan.parts()]))


def addresses(plan, sizes):
    return [address for address, _ in earliest(plan, sizes)]


def is_below(one, other):
    return all(a <= b for a, b in zip(one, other))


class Known:
    """All sizes of a plan with a pair of its parts, and the reach at each of them."""

    def __init__(self, plan, first, last):
        self.plan = plan
        self.words = (plan.parts()[first][0], plan.parts()[last][0])
        self.reach = {sizes: addresses(plan, sizes)[last] - addresses(plan, sizes)[first] for sizes in all_sizes(plan)}

    def first_beyond(self, far):
        return min([(sum(sizes), list(sizes)) for sizes, reach in self.reach.items() if reach > far], default=(0, None))[1]

    def holds(self, bounds, far):
        return all(reach <= far for sizes, reach in self.reach.items() if is_below(sizes, bounds))


def known_ones(many, parts=4, fixed=3, most=3):
    for seed in range(many):
        dice = random.Random(seed)
        plan = random_plan(dice, dice.randint(2, parts), most, dice.choice([8, 8, 16]), fixed)
        first = dice.randrange(len(plan.parts()) - 1)
        yield dice, Known(plan, first, dice.randint(first + 1, len(plan.parts()) - 1))


class TestReaches(unittest.TestCase):
    def test_the_least_and_the_greatest(self):
        lessened = 0
        for _, known in known_ones(150, 4, 4):
            told = reaches(known.plan, *known.words)
            self.assertEqual(told, (min(known.reach.values()), max(known.reach.values())))
            lessened += known.reach[all_sizes(known.plan)[-1]] < told[1]
        self.assertGreater(lessened, 5)

    def test_the_first_sizes(self):
        seen = {"none": 0, "some": 0}
        for dice, known in known_ones(150, 4, 4):
            for far in {*known.reach.values(), min(known.reach.values()) - 1, -1, 10 ** 9}:
                told = far_sizes(known.plan, *known.words, far)
                self.assertEqual(told, known.first_beyond(far))
                seen["none" if told is None else "some"] += 1
        self.assertGreater(min(seen.values()), 100)

    def test_the_greatest_where_all_between_are_greatest(self):
        for _, known in known_ones(60, 4, 4):
            first = [part[0] for part in known.plan.parts()].index(known.words[0])
            mosts = [part[4] for part in known.plan.parts()]
            there = [reach for sizes, reach in known.reach.items() if list(sizes[first:]) == mosts[first:]]
            self.assertEqual(max(there), reaches(known.plan, *known.words)[1])

    def test_no_size_between_lessens_it(self):
        lessened = 0
        for _, known in known_ones(60, 4, 4):
            first = [part[0] for part in known.plan.parts()].index(known.words[0])
            for sizes, reach in known.reach.items():
                for at in range(len(sizes)):
                    other = (*sizes[:at], sizes[at] + 1, *sizes[at + 1:])
                    if other in known.reach and at >= first:
                        self.assertGreaterEqual(known.reach[other], reach)
                    lessened += at < first and known.reach.get(other, reach) < reach
        self.assertGreater(lessened, 20)

    def test_one_part_alone_between(self):
        plan = Plan(8, [("a", "rx", 1, 0, 9, False), ("b", "rx", 1, 2, 4, True)])
        self.assertEqual(reaches(plan, "a", "b"), (0, 9))
        self.assertEqual(far_sizes(plan, "a", "b", 4), [5, 2])
        self.assertEqual(far_sizes(plan, "a", "b", -5), [0, 2])
        self.assertIsNone(far_sizes(plan, "a", "b", 9))

    def test_a_rest_that_comes_cheaper_later(self):
        # c has to begin at a rest of 6: b at 4 behind one cell of a is cheaper than six cells of b
        plan = Plan(8, [("a", "rx", 1, 0, 9, False), ("b", "rx", 4, 0, 9, False), ("c", "rx", 1, 3, 3, False),
                        ("d", "rx", 8, 0, 9, False)])
        self.assertEqual(far_sizes(plan, "c", "d", 9), [1, 2, 3, 0])
        known = Known(plan, 2, 3)
        for far in range(-1, 11):
            self.assertEqual(far_sizes(plan, "c", "d", far), known.first_beyond(far))

    def test_at_the_limits(self):
        for aligns in ([1] * 8, [1, 2, 4, 8, 16, 32, 64, 1]):
            parts = [("abcdefgh"[at], "rx" if at < 6 else "rw", aligns[at], 0, 64, False) for at in range(8)]
            plan = Plan(64, parts)
            least, greatest = reaches(plan, "b", "h")
            self.assertLess(least, greatest)
            self.assertIsNone(far_sizes(plan, "b", "h", greatest))
            for far in (greatest - 1, greatest // 2):
                sizes = far_sizes(plan, "b", "h", far)
                places = addresses(plan, sizes)
                self.assertGreater(places[7] - places[1], far)
            self.assertIs(bounds_hold(plan, [64] * 8, "b", "h", greatest), True)
            self.assertIs(bounds_hold(plan, [64] * 8, "b", "h", greatest - 1), False)


class TestBounds(unittest.TestCase):
    def test_whether_they_hold(self):
        seen = {True: 0, False: 0}
        for dice, known in known_ones(60):
            fars = sorted(set(known.reach.values()))
            for bounds in all_sizes(known.plan):
                far = dice.choice(fars) - dice.randint(0, 1)
                told = bounds_hold(known.plan, bounds, *known.words, far)
                self.assertIs(told, known.holds(bounds, far))
                seen[told] += 1
        self.assertGreater(min(seen.values()), 300, seen)

    def test_the_greatest_ones(self):
        several = beneath = 0
        for dice, known in known_ones(90):
            for far in set(known.reach.values()):
                holding = [bounds for bounds in known.reach if known.holds(bounds, far)]
                greatest = [bounds for bounds in holding
                            if not any(is_below(bounds, other) and bounds != other for other in holding)]
                self.assertEqual(greatest_bounds(known.plan, *known.words, far), sorted(greatest))
                several += len(greatest) > 1
                # sizes that reach too far beneath greater ones that do not
                beneath += any(known.reach[sizes] <= far and sizes not in holding for sizes in known.reach)
        self.assertGreater(several, 3)
        self.assertGreater(beneath, 5)


    def test_bounds_hold_beneath_the_greatest_ones(self):
        for dice, known in known_ones(40):
            far = dice.choice(sorted(known.reach.values()))
            greatest = greatest_bounds(known.plan, *known.words, far)
            for bounds in known.reach:
                self.assertIs(bounds_hold(known.plan, bounds, *known.words, far),
                              any(is_below(bounds, other) for other in greatest))


class TestWhatStays(unittest.TestCase):
    def test_steady_ones_and_moves(self):
        moved = stayed = several = 0
        for dice, known in known_ones(120):
            plan = known.plan
            places = {sizes: addresses(plan, sizes) for sizes in all_sizes(plan)}
            leasts = tuple(part[3] for part in plan.parts())
            still = []
            for number, part in enumerate(plan.parts()):
                moving = [sizes for sizes in places if places[sizes][number] != places[leasts][number]]
                wanted = [sizes for sizes in moving if not any(is_below(other, sizes) and other != sizes for other in moving)]
                self.assertEqual(least_moves(plan, part[0]), sorted(wanted))
                several += len(wanted) > 1
                if not moving:
                    still.append(part[0])
            self.assertEqual(steady(plan), sorted(still))
            moved += len(plan.parts()) - len(still)
            stayed += len(still)
        self.assertGreater(min(moved, stayed), 50)
        self.assertGreater(several, 3)

    def test_slack_is_shared(self):
        plan = Plan(8, [("b", "rx", 1, 1, 3, False), ("a", "rx", 1, 1, 3, False), ("c", "rx", 4, 1, 1, False)])
        self.assertEqual(least_moves(plan, "c"), [(2, 3, 1), (3, 2, 1)])
        self.assertEqual(steady(Plan(8, [("b", "rx", 1, 1, 1, False), ("a", "rx", 1, 1, 3, False),
                                         ("c", "rx", 4, 1, 1, False)])), ["a", "b", "c"])


class TestExampleAndErrors(unittest.TestCase):
    def test_the_example(self):
        plan = example_77()
        self.assertEqual(call_alike(self, reaches, plan, "b", "c"), (4, 8))
        self.assertEqual(call_alike(self, far_sizes, plan, "b", "c", 7), [0, 3, 5])
        self.assertEqual(call_alike(self, greatest_bounds, plan, "a", "c", 8), [(4, 3, 5)])
        self.assertEqual(call_alike(self, greatest_bounds, plan, "b", "c", 7), [])
        self.assertEqual(call_alike(self, steady, plan), ["a"])
        self.assertEqual(call_alike(self, least_moves, plan, "c"), [(5, 3, 5)])
        self.assertIs(call_alike(self, bounds_hold, plan, [4, 3, 5], "a", "c", 8), True)
        self.assertIs(bounds_hold(plan=plan, bounds=(5, 3, 5), one="a", other="c", far=8), False)
        self.assertEqual(far_sizes(plan=plan, one="b", other="c", far=7), [0, 3, 5])
        self.assertEqual(greatest_bounds(plan=plan, one="a", other="c", far=8), [(4, 3, 5)])
        self.assertEqual(least_moves(plan=plan, word="c"), [(5, 3, 5)])
        self.assertEqual(reaches(plan=plan, one="a", other="b"), (0, 12))

    def test_no_part(self):
        plan = example_77()
        for thing in [*any_objects(), "d", "rx"]:
            for function, more in ((reaches, ()), (far_sizes, (None,)), (greatest_bounds, (None,))):
                self.assertEqual(raised(function, plan, thing, None, *more), ("NoPart", thing))
                self.assertEqual(raised(function, plan, "b", thing, *more), ("NoPart", thing))
            self.assertEqual(raised(bounds_hold, plan, [4, 3, 5], thing, None, None), ("NoPart", thing))
            self.assertEqual(raised(least_moves, plan, thing), ("NoPart", thing))

    def test_not_behind(self):
        plan = example_77()
        for one, other in (("b", "a"), ("c", "a"), ("b", "b")):
            self.assertEqual(raised(reaches, plan, one, other), ("NotBehind", one, other))
            self.assertEqual(raised(far_sizes, plan, one, other, None), ("NotBehind", one, other))
            self.assertEqual(raised(greatest_bounds, plan, one, other, None), ("NotBehind", one, other))
            self.assertEqual(raised(bounds_hold, plan, [4, 3, 5], one, other, None), ("NotBehind", one, other))

    def test_bad_far(self):
        plan = example_77()
        for thing in any_objects():
            if not isinstance(thing, int) or isinstance(thing, bool):
                self.assertEqual(raised(far_sizes, plan, "a", "b", thing), ("BadFar", thing))
                self.assertEqual(raised(greatest_bounds, plan, "a", "b", thing), ("BadFar", thing))
                self.assertEqual(raised(bounds_hold, plan, [4, 3, 5], "a", "b", thing), ("BadFar", thing))

    def test_bad_bounds_come_first(self):
        plan = example_77()
        for thing, index in ((None, 0), ([10, 3, 5], 0), ([0, 3], 3), ([0, True, 5], 1)):
            self.assertEqual(raised(bounds_hold, plan, thing, None, None, None), ("BadSizes", index))


if __name__ == "__main__":
    unittest.main()
