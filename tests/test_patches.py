"""Promise 89 and its part of the example of 91: patches and floors."""

import itertools
import random
import unittest

from linklines.patches import cost, floor, is_floor, least_patch, patched
from tests.tools import any_objects, call_alike, raised

OLD = [1, 5, 0, 0, 7, 8, 9, 0, 0, 10]
NEW = [1, 5, 0, 0, 7, 8, 9, 9, 9, 0, 0, 0, 0, 14]


def random_cells(dice, most=9):
    return [dice.choice([0, 0, 1, 2, ("a", 0), ("a", 1)]) for _ in range(dice.randint(0, most))]


def all_copies(old, new):
    return {(i, j) for i in range(len(new)) for j in range(i + 1, len(new) + 1)
            for k in range(len(old)) if old[k:k + j - i] == new[i:j]}


def plain_price(copies, prices, i, j):
    write = prices[0] + prices[1] * (j - i)
    return min(write, prices[2]) if (i, j) in copies else write


def plain_floor(old, new, prices):
    copies = all_copies(old, new)
    costs = [0]
    for j in range(1, len(new) + 1):
        costs.append(min(costs[i] + plain_price(copies, prices, i, j) for i in range(j)))
    return costs


class TestPatches(unittest.TestCase):
    def test_least_ones(self):
        kinds = {"write": 0, "copy": 0}
        for seed in range(250):
            dice = random.Random(seed)
            old, new = random_cells(dice), random_cells(dice, 8)
            prices = [dice.randint(1, 4) for _ in range(3)]
            patch = least_patch(old, new, prices)
            self.assertEqual(patched(old, patch), new)
            costs = plain_floor(old, new, prices)
            self.assertEqual(cost(patch, prices), costs[-1])
            self.assertEqual(floor(old, new, prices), costs)
            self.assertIs(is_floor(old, new, prices, costs), True)
            for run in patch:
                kinds[run[0]] += 1
        self.assertGreater(min(kinds.values()), 100)

    def test_no_patch_costs_less(self):
        for seed in range(15):
            dice = random.Random(seed)
            old, new = random_cells(dice, 3), random_cells(dice, 3)
            prices = [dice.randint(1, 3) for _ in range(3)]
            cells = [[cell] for cell in dict.fromkeys(new)] + [list(pair) for pair in dict.fromkeys(zip(new, new[1:]))] + [new]
            runs = [("write", row) for row in cells if row]
            runs += [("copy", i, many) for i in range(len(old)) for many in range(1, len(old) - i + 1)]
            every = [patch for many in range(4) for patch in itertools.product(runs, repeat=many) if patched(old, patch) == new]
            self.assertEqual(min(cost(patch, prices) for patch in every), floor(old, new, prices)[-1])
            self.assertIn(cost(least_patch(old, new, prices), prices), {cost(patch, prices) for patch in every})

    def test_floors(self):
        seen = {True: 0, False: 0}
        for seed in range(250):
            dice = random.Random(seed)
            old, new = random_cells(dice, 5), random_cells(dice, 5)
            prices = [dice.randint(1, 3) for _ in range(3)]
            thing = [number + dice.choice([0, 0, 0, -1, -2, 1]) for number in plain_floor(old, new, prices)]
            thing[0] = dice.choice([0, 0, 0, 0, 1])
            copies = all_copies(old, new)
            wanted = thing[0] == 0 and all(thing[j] <= thing[i] + plain_price(copies, prices, i, j)
                                           for i in range(len(new)) for j in range(i + 1, len(new) + 1))
            self.assertIs(is_floor(old, new, prices, thing), wanted)
            if wanted:
                self.assertTrue(all(a <= b for a, b in zip(thing, floor(old, new, prices))))
            seen[wanted] += 1
        self.assertGreater(min(seen.values()), 30)
        for thing in [*any_objects(), [0], [0, 1, 1, 1], [0, 1, "1"], [0, True, 1], [False, 1, 1], [0, 1, None]]:
            self.assertIs(is_floor([1], [1, 1], [1, 1, 1], thing), False)
        self.assertIs(is_floor([1], [], [1, 1, 1], [0]), True)
        self.assertIs(is_floor([1], [], [1, 1, 1], [1]), False)

    def test_what_is_made(self):
        patch = [("copy", 2, 2), ("write", [7, ["a", 0]]), ["copy", 0, 1], ("write", (9,))]
        self.assertEqual(call_alike(self, patched, [1, ("b", 3), 3, ["c", 4]], patch), [3, ("c", 4), 7, ("a", 0), 1, 9])
        self.assertEqual(call_alike(self, cost, patch, [10, 3, 100]), 229)
        self.assertEqual(patched(old=[1], patch=[]), [])
        self.assertEqual(cost(patch=[], prices=(1, 1, 1)), 0)
        # a cost looks at no old row
        self.assertEqual(cost([("copy", 10 ** 6, 10 ** 6)], [1, 1, 5]), 5)

    def test_a_write_can_be_cheaper_than_a_copy(self):
        old, new = [1, 2, 3, 4, 5, 9], [1, 2, 3, 4, 5, 1]
        self.assertEqual(least_patch(old, new, [1, 1, 3]), [("copy", 0, 5), ("write", (1,))])
        self.assertEqual(least_patch(old, new, [2, 1, 2]), [("copy", 0, 5), ("copy", 0, 1)])

    def test_the_example(self):
        patch = call_alike(self, least_patch, OLD, NEW, [1, 1, 2])
        self.assertEqual(cost(patch, [1, 1, 2]), 10)
        self.assertEqual(patched(OLD, patch), NEW)
        self.assertEqual(call_alike(self, floor, OLD, NEW, [1, 1, 2])[-1], 10)
        self.assertIs(call_alike(self, is_floor, OLD, NEW, [1, 1, 2], [0] * 15), True)
        self.assertIs(is_floor(old=OLD, new=NEW, prices=[1, 1, 2], thing=[0] * 14 + [11]), False)
        self.assertEqual(floor(old=[], new=[1], prices=[2, 3, 1]), [0, 5])
        self.assertEqual(least_patch(old=[], new=[1], prices=[2, 3, 1]), [("write", (1,))])
        # any runs of this cost do
        self.assertEqual(cost([("copy", 0, 7), ("write", NEW[7:])], [1, 1, 2]), 10)

    def test_at_the_limits(self):
        dice = random.Random(2)
        old, new = [dice.randint(0, 1) for _ in range(60)], [dice.randint(0, 1) for _ in range(60)]
        patch = least_patch(old, new, [3, 1, 2])
        self.assertEqual(patched(old, patch), new)
        self.assertEqual(cost(patch, [3, 1, 2]), floor(old, new, [3, 1, 2])[-1])


class TestErrors(unittest.TestCase):
    def test_bad_runs(self):
        good = ("write", [1])
        for thing in any_objects():
            if not isinstance(thing, (list, tuple)):
                self.assertEqual(raised(patched, [1, 2], thing), ("BadRun", 0))
                self.assertEqual(raised(cost, thing, None), ("BadRun", 0))
            for run in (thing, ("write", thing), (thing, [1]), ("copy", thing, 3), (thing, 0, 1)):
                self.assertEqual(raised(patched, [1, 2], [good, run, 0]), ("BadRun", 1), run)
            if not isinstance(thing, int) or isinstance(thing, bool):
                self.assertEqual(raised(patched, [1, 2], [good, ("write", [1, thing]), 0]), ("BadRun", 1))
                self.assertEqual(raised(cost, [good, ("copy", 0, thing), 0], None), ("BadRun", 1))
                self.assertEqual(raised(cost, [good, ("copy", thing, 1), 0], None), ("BadRun", 1))
        for run in [("copy", 0, 0), ("copy", -1, 1), ("copy", 0), ("write",), ("write", [1], 2), ("write", [("a",)])]:
            self.assertEqual(raised(patched, [1, 2], [good, good, run]), ("BadRun", 2))
            self.assertEqual(raised(cost, [good, good, run], None), ("BadRun", 2))
        for run in [("copy", 0, 3), ("copy", 2, 1), ("copy", 1, 2)]:
            self.assertEqual(raised(patched, [1, 2], [good, run]), ("BadRun", 1))
            self.assertIsNone(raised(cost, [good, run], [1, 1, 1]))

    def test_bad_prices(self):
        calls = ((cost, ([],)), (least_patch, ([1], [1])), (floor, ([1], [1])))
        for function, ahead in calls:
            for thing in any_objects():
                if not isinstance(thing, (list, tuple)):
                    self.assertEqual(raised(function, *ahead, thing), ("BadPrices", 0))
                if not isinstance(thing, int) or isinstance(thing, bool) or thing < 1:
                    self.assertEqual(raised(function, *ahead, [1, thing, 0]), ("BadPrices", 1))
            for prices, index in (([], 3), ([1, 1], 3), ([1, 1, 1, 1], 3), ([1, 1, 0, 1], 2), ([0], 0)):
                self.assertEqual(raised(function, *ahead, prices), ("BadPrices", index))
        self.assertEqual(raised(is_floor, [1], [1], [1, 0, 1], None), ("BadPrices", 1))

    def test_bad_cells(self):
        for function, more in ((least_patch, ()), (floor, ()), (is_floor, (None,))):
            for thing in any_objects():
                if not isinstance(thing, (list, tuple)) or thing:
                    self.assertEqual(raised(function, thing, None, None, *more), ("BadCells", 0))
                    self.assertEqual(raised(function, [1], thing, None, *more), ("BadCells", 1))
            self.assertEqual(raised(function, [("A", 1)], None, None, *more), ("BadCells", 0))
            self.assertEqual(raised(function, [("a", 1)], [("a", True)], None, *more), ("BadCells", 1))


if __name__ == "__main__":
    unittest.main()
