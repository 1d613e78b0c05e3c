"""Promises 69 to 72 and 76, and their part of the example of 77: plans, layouts, what is shortest, better orders."""

import itertools
import random
import unittest

from linklines.pairs import best_order, best_pairs, layout_with
from linklines.plans import Plan, earliest, is_layout, shortest
from tests.plan_tools import example_77, plain_ends, plain_is_layout, random_plan, random_sizes
from tests.tools import any_objects, as_lists, call_alike, raised, spoil

PART = ("a", "rx", 4, 0, 9, False)


class TestPlans(unittest.TestCase):
    def test_what_is_told(self):
        parts = [list(PART), ("b", "rw", 1, 2, 2, True)]
        plan = Plan(8, parts)
        self.assertEqual(plan.page(), 8)
        self.assertEqual(plan.parts(), [PART, ("b", "rw", 1, 2, 2, True)])
        parts[0][0] = "z"
        parts.pop()
        spoil(plan.parts())
        self.assertEqual(plan, Plan(page=8, parts=(PART, ["b", "rw", 1, 2, 2, True])))
        for other in (Plan(16, plan.parts()), Plan(8, plan.parts()[::-1]), Plan(8, [PART]), *any_objects()):
            self.assertFalse(plan == other)

    def test_bad_pages(self):
        for thing in [*any_objects(), 4, 128, 12, 8.0, "8"]:
            self.assertEqual(raised(Plan, thing, None), ("BadPage", thing))
        for page in (8, 16, 32, 64):
            self.assertIsNone(raised(Plan, page, [("a", "r", page, 0, 0, True)]))

    def test_bad_parts(self):
        for thing in any_objects():
            if not isinstance(thing, (list, tuple)) or not thing:
                self.assertEqual(raised(Plan, 8, thing), ("BadPart", 0))
            self.assertEqual(raised(Plan, 8, [PART, thing, 0]), ("BadPart", 1))
            number = isinstance(thing, int) and not isinstance(thing, bool)
            fitting = (False, False, number and thing == 1, number and 0 <= thing <= 9, number and thing >= 0,
                       isinstance(thing, bool))
            for at in range(6):
                part = ["b", *PART[1:]]
                part[at] = thing
                if not fitting[at]:
                    self.assertEqual(raised(Plan, 8, [PART, part, 0]), ("BadPart", 1), part)
        for part in [PART, ("b", "wx", 4, 0, 9, False), ("b", "rx", 16, 0, 9, False), ("b", "rx", 3, 0, 9, False),
                     ("b", "rx", 4, 5, 4, False), ("b", "rx", 4, -1, 4, False), PART[:5], ("b", *PART[1:], 0)]:
            self.assertEqual(raised(Plan, 8, [PART, part, 0]), ("BadPart", 1))
        # bits right behind zeros of the same rights
        zeros = ("z", "rx", 1, 0, 1, True)
        self.assertEqual(raised(Plan, 8, [zeros, PART]), ("BadPart", 1))
        for parts in ([PART, zeros], [zeros, ("y", "rx", 1, 0, 1, True)], [zeros, ("b", "rw", 1, 0, 1, False)],
                      [zeros, ("w", "rw", 1, 0, 1, True), PART]):
            self.assertIsNone(raised(Plan, 8, parts))
            self.assertIsNone(raised(Plan, 8, as_lists(parts)))


class TestLayouts(unittest.TestCase):
    def test_the_earliest_and_the_shortest_among_all(self):
        for seed in range(80):
            dice = random.Random(seed)
            plan = random_plan(dice, 3, 3)
            sizes = random_sizes(dice, plan)
            first, short = earliest(plan, sizes), shortest(plan, sizes)
            self.assertIs(plain_is_layout(plan, sizes, first), True)
            self.assertIs(plain_is_layout(plan, sizes, short), True)
            every = list(all_layouts(plan, sizes, 8))
            self.assertIn(first, every)
            for layout in every:
                self.assertTrue(all(a[0] <= b[0] for a, b in zip(first, layout)))
                if [a for a, _ in layout] == [a for a, _ in first]:
                    self.assertTrue(all(a[1] is None or a[1] <= b[1] for a, b in zip(first, layout)))
                self.assertTrue(all(a[1] is None or a[1] <= b[1] for a, b in zip(short, layout)))
                if [b for _, b in layout] == [b for _, b in short]:
                    self.assertTrue(all(a[0] <= b[0] for a, b in zip(short, layout)))

    def test_best_pairs_among_all(self):
        several = 0
        for seed in range(80):
            dice = random.Random(seed)
            plan = random_plan(dice, 3, 3)
            sizes = random_sizes(dice, plan)
            ends = {plain_ends(plan, sizes, layout) for layout in all_layouts(plan, sizes, 8)}
            best = sorted(pair for pair in ends if not any(other[0] <= pair[0] and other[1] <= pair[1] and other != pair
                                                           for other in ends))
            told = best_pairs(plan, sizes)
            self.assertEqual(told, best)
            several += len(best) > 1
            for file, memory in itertools.product(range(0, 30, 3), range(6)):
                layout = layout_with(plan, sizes, file, memory)
                self.assertIs(layout is not None, any(a <= file and b <= memory for a, b in best))
                if layout is not None:
                    self.assertIs(is_layout(plan, sizes, layout), True)
                    found = plain_ends(plan, sizes, layout)
                    self.assertTrue(found[0] <= file and found[1] <= memory)
        self.assertGreater(several, 3)

    def test_more_than_two_best_pairs(self):
        several = 0
        for seed in range(1600):
            dice = random.Random(seed)
            plan = random_plan(dice, dice.randint(3, 5), 14)
            sizes = random_sizes(dice, plan)
            told = best_pairs(plan, sizes)
            if len(told) > 2:
                several += 1
                self.assertEqual(told, pairs_by_rests(plan, sizes))
                for file, memory in told:
                    layout = layout_with(plan, sizes, file, memory)
                    self.assertEqual(plain_ends(plan, sizes, layout), (file, memory))
                    self.assertIs(plain_is_layout(plan, sizes, layout), True)
                    self.assertIsNone(layout_with(plan, sizes, file - 1, memory))
                    self.assertIsNone(layout_with(plan, sizes, file, memory - 1))
        self.assertGreater(several, 1)

    def test_is_layout(self):
        seen = {True: 0, False: 0}
        for seed in range(300):
            dice = random.Random(seed)
            plan = random_plan(dice, 3, 4)
            sizes = random_sizes(dice, plan)
            layout = [list(pair) for pair in dice.choice([earliest, shortest])(plan, sizes)]
            for _ in range(dice.randint(0, 2)):
                pair = dice.choice(layout)
                at = dice.randint(0, 1)
                pair[at] = dice.choice([0, 8, 16, None, True, (pair[0] or 0) + 8, (pair[1] or 0) + 8, (pair[1] or 0) + 1])
            wanted = plain_is_layout(plan, sizes, [tuple(pair) for pair in layout])
            self.assertIs(is_layout(plan, sizes, layout), wanted)
            seen[wanted] += 1
        self.assertGreater(min(seen.values()), 60, seen)
        plan = example_77()
        for thing in [*any_objects(), [], [(0, 0)], [(0, 0), (4, 4)], [(0, 0), (4, 4), (8, 8), (16, 16)],
                      [(-8, 0), (4, 4), (8, 8)], [(-1, 7), (4, 12), (8, 16)], [(0, -8), (4, 4), (8, 8)],
                      [(0, 0), (4, 4), (8, 8, 8)], [(0, 0), (4, 4), "ab"], [(0, 0), (4, 4), None]]:
            self.assertIs(is_layout(plan, [1, 3, 5], thing), False)
        self.assertIs(call_alike(self, is_layout, plan, [1, 3, 5], [(0, 0), (4, 4), (8, 8)]), True)

    def test_borders_zeros_and_rests(self):
        # rights share no page; behind a border at the end of a page nothing is left out
        plan = Plan(8, [("a", "rx", 1, 0, 20, False), ("b", "rw", 1, 0, 20, False), ("c", "rw", 1, 0, 20, True)])
        self.assertEqual(earliest(plan, [8, 1, 3]), [(0, 0), (8, 8), (9, None)])
        self.assertEqual(earliest(plan, [9, 1, 3]), [(0, 0), (16, 16), (17, None)])
        self.assertEqual(shortest(plan, [9, 1, 3]), [(0, 0), (17, 9), (18, None)])
        self.assertEqual(best_pairs(plan, [9, 1, 3]), [(10, 3)])
        # zeros at the border have no offset, and bits behind other zeros no rest but their own
        plan = Plan(8, [("z", "rw", 2, 0, 20, True), ("b", "rx", 4, 0, 20, False)])
        self.assertEqual(earliest(plan, [3, 2]), [(0, None), (8, 0)])
        self.assertEqual(best_pairs(plan, [3, 2]), [(2, 2)])
        self.assertEqual(best_pairs(Plan(8, [("z", "rw", 2, 0, 20, True)]), [0]), [(0, 0)])
        self.assertEqual(best_pairs(Plan(8, [("z", "rw", 2, 0, 20, True)]), [17]), [(0, 3)])
        # parts without cells stand where others stand
        plan = Plan(8, [("a", "rx", 1, 0, 0, False), ("b", "rw", 1, 0, 0, False), ("c", "rx", 8, 0, 0, True)])
        self.assertEqual(earliest(plan, [0, 0, 0]), [(0, 0), (0, 0), (0, None)])
        self.assertEqual(best_pairs(plan, (0, 0, 0)), [(0, 0)])

    def test_the_example(self):
        plan = example_77()
        self.assertEqual(call_alike(self, earliest, plan, [1, 3, 5]), [(0, 0), (4, 4), (8, 8)])
        self.assertEqual(call_alike(self, shortest, plan, [1, 3, 5]), [(0, 0), (4, 4), (15, 7)])
        self.assertEqual(call_alike(self, best_pairs, plan, [1, 3, 5]), [(12, 3), (13, 2)])
        self.assertEqual(call_alike(self, layout_with, plan, [1, 3, 5], 12, 3), [(0, 0), (4, 4), (15, 7)])
        self.assertIsNone(call_alike(self, layout_with, plan, [1, 3, 5], 12, 2))
        self.assertEqual(layout_with(plan=plan, sizes=[1, 3, 5], file=13, memory=2), [(0, 0), (4, 4), (8, 8)])

    def test_bad_sizes(self):
        plan = example_77()
        calls = [(earliest, ()), (shortest, ()), (is_layout, (None,)), (best_pairs, ()), (layout_with, (0, 0)), (best_order, ())]
        for function, more in calls:
            for thing in any_objects():
                if not isinstance(thing, (list, tuple)):
                    self.assertEqual(raised(function, plan, thing, *more), ("BadSizes", 0))
                if thing != 3 or isinstance(thing, bool):
                    self.assertEqual(raised(function, plan, [0, thing, None], *more), ("BadSizes", 1))
            for thing in (-1, 10, True):
                self.assertEqual(raised(function, plan, [thing, 3, 5, 7], *more), ("BadSizes", 0))
            self.assertEqual(raised(function, plan, [], *more), ("BadSizes", 3))
            self.assertEqual(raised(function, plan, (9, 3), *more), ("BadSizes", 3))
            self.assertEqual(raised(function, plan, (9, 3, 5, 5), *more), ("BadSizes", 3))
            self.assertEqual(raised(function, plan, (9, 3, 4, 5), *more), ("BadSizes", 2))


def pairs_by_rests(plan, sizes):
    """The best pairs among the layouts that are earliest for each choice of the rests of the bits by the page."""
    page, parts = plan.page(), plan.parts()
    ends = set()
    for rests in itertools.product(*[[None] if part[5] else range(0, page, part[2]) for part in parts]):
        end = file_end = 0
        for at, (part, rest, size) in enumerate(zip(parts, rests, sizes)):
            address = end
            while (at and parts[at - 1][1] != part[1] and address // page == (end - 1) // page and end % page) \
                    or (address % part[2] if rest is None else address % page != rest):
                address += 1
            end = address + size
            if rest is not None:
                while file_end % page != rest:
                    file_end += 1
                file_end += size
        ends.add((file_end, -(-end // page)))
    return sorted(pair for pair in ends
                  if not any(other[0] <= pair[0] and other[1] <= pair[1] and other != pair for other in ends))


def all_layouts(plan, sizes, beyond):
    """All layouts whose addresses and offsets are not greater than need be by so much."""
    parts = plan.parts()

    def go_on(layout):
        at = len(layout)
        if at == len(parts):
            yield layout
            return
        end = layout[-1][0] + sizes[at - 1] if layout else 0
        file_end = max([pair[1] + size for pair, size in zip(layout, sizes) if pair[1] is not None], default=0)
        for address in range(end, end + plan.page() + beyond):
            for offset in [None] if parts[at][5] else range(file_end, file_end + beyond + 4):
                longer = [*layout, (address, offset)]
                if plain_is_layout(plan, sizes, longer):
                    yield from go_on(longer)

    return go_on([])


class TestOrders(unittest.TestCase):
    def test_among_all_orders(self):
        changed = 0
        for seed in range(150):
            dice = random.Random(seed)
            plan = random_plan(dice, dice.randint(1, 6), 9, page=dice.choice([8, 16]))
            sizes = random_sizes(dice, plan)
            best = min((end_in(plan, sizes, order), list(order)) for order in all_orders(plan))
            told = best_order(plan, sizes)
            self.assertEqual(told, best[1])
            changed += told != sorted(told)
        self.assertGreater(changed, 20)

    def test_multiples_of_aligns_leave_no_gap(self):
        for seed in range(60):
            dice = random.Random(seed)
            aligns = [dice.choice([1, 2, 4, 8]) for _ in range(dice.randint(1, 5))]
            sizes = [align * dice.randint(0, 3) for align in aligns]
            zeros = dice.random() < 0.5
            plan = Plan(8, [("abcde"[at], "rw", align, size, size, zeros) for at, (align, size) in enumerate(zip(aligns, sizes))])
            falling = sorted(range(len(aligns)), key=lambda at: -aligns[at])
            self.assertEqual(end_in(plan, sizes, falling), sum(sizes))
            self.assertEqual(end_in(plan, sizes, best_order(plan, sizes)), sum(sizes))

    def test_falling_aligns(self):
        plan = Plan(8, [("a", "rx", 1, 3, 3, False), ("b", "rx", 8, 8, 8, False), ("c", "rx", 2, 2, 2, False),
                        ("z", "rx", 1, 1, 1, True), ("y", "rx", 4, 4, 4, True)])
        self.assertEqual(call_alike(self, best_order, plan, [3, 8, 2, 1, 4]), [1, 0, 2, 3, 4])
        self.assertEqual(best_order(plan=plan, sizes=[3, 8, 2, 1, 4]), [1, 0, 2, 3, 4])
        self.assertEqual(best_order(Plan(8, [PART]), [5]), [0])


def all_orders(plan):
    parts = plan.parts()
    for order in itertools.permutations(range(len(parts))):
        rights = [parts[number][1] for number in order]
        if rights != [part[1] for part in parts]:
            continue
        runs = [[number for _, number in group] for _, group in
                itertools.groupby(enumerate(order), key=lambda pair: parts[pair[0]][1])]
        at = 0
        fitting = True
        for run in runs:
            fitting = fitting and sorted(run) == list(range(at, at + len(run)))
            marks = [parts[number][5] for number in run]
            fitting = fitting and marks == sorted(marks)
            at += len(run)
        if fitting:
            yield order


def end_in(plan, sizes, order):
    moved = Plan(plan.page(), [plan.parts()[number] for number in order])
    layout = earliest(moved, [sizes[number] for number in order])
    return layout[-1][0] + sizes[order[-1]]


if __name__ == "__main__":
    unittest.main()
