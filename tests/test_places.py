"""Promises 15, 16 and 18: files that change places, exchanges."""

import itertools
import random
import unittest

from linklines.alikelines import kinds, lines_part
from linklines.objects import Archive, Library, Object
from linklines.places import are_exchanges, exchanges, first_led, pair_against, places_part
from linklines.stands import stand_behind, stands
from linklines.stores import Store
from tests.test_stands import small_stores
from tests.tools import any_objects, as_tuples, call_alike, example_10, lines_up_to, obj, plain_outcome, raised
from tests.tools import random_store


def plain_places_part(store, one, other, most):
    for ahead in lines_up_to(store.files(), most):
        for behind in lines_up_to(store.files(), 3):
            ends = [plain_outcome(store, [*ahead, *pair, *behind]) for pair in ((one, other), (other, one))]
            if ends[0] != ends[1]:
                return (ahead, behind)
    return None


def free_pairs(store):
    return {(one, other) for one in store.files() for other in store.files()
            if one != other and places_part(store, one, other) is None}


def plain_led(pairs, line):
    """A dict from all lines to which a line is led to the fewest exchanges for it."""
    found = {tuple(line): 0}
    queue = [tuple(line)]
    for here in queue:
        for at in range(len(here) - 1):
            if (here[at], here[at + 1]) in pairs:
                after = (*here[:at], here[at + 1], here[at], *here[at + 2:])
                if after not in found:
                    found[after] = found[here] + 1
                    queue.append(after)
    return found


def free_store():
    """A store in which many files may change places."""
    return Store({"a": obj("a"), "b": obj("b", "a"), "c": Library(["q"]), "d": Archive([("p", obj("c"))]),
                  "e": Object({}, ["c"])})


class TestPlaces(unittest.TestCase):
    def test_against_all_lines(self):
        parted = free = deep = 0
        for store in small_stores(25):
            most = max(len(line) for line, _ in stands(store))
            for one, other in itertools.product(store.files(), repeat=2):
                told = call_alike(self, places_part, store, one, other)
                if told is None:
                    free += one != other
                    self.assertIsNone(plain_places_part(store, one, other, min(most, 2)))
                else:
                    parted += 1
                    deep += told[0] != () or told[1] != ()
                    self.assertEqual(told, plain_places_part(store, one, other, len(told[0])))
        self.assertGreater(min(parted, free), 10)
        self.assertGreater(deep, 4)

    def test_they_may_exactly_if_from_each_stand_both_orders_lead_to_alike_ones(self):
        for seed in range(40):
            store = random_store(seed, 4)
            lot_of = {number: at for at, lot in enumerate(kinds(store)) for number in lot}

            def lot_behind(number, line):
                for name in line:
                    number = stand_behind(store, number, name)
                return lot_of[number]

            for one, other in itertools.combinations(store.files(), 2):
                may = all(lot_behind(number, (one, other)) == lot_behind(number, (other, one)) for number in lot_of)
                self.assertIs(places_part(store, one, other) is None, may)

    def test_one_file_may(self):
        for name in example_10().files():
            self.assertIsNone(places_part(example_10(), name, name))

    def test_errors(self):
        store = example_10()
        for thing in [*any_objects(), "lacks"]:
            self.assertEqual(raised(places_part, store, thing, 0), ("NoFile", thing))
            self.assertEqual(raised(places_part, store, "main", thing), ("NoFile", thing))
        for function in (exchanges, pair_against):
            self.assertEqual(raised(function, store, ["main", 0], [0]), ("BadLine", 1))
            self.assertEqual(raised(function, store, ["main"], [0]), ("BadLine", 0))
        self.assertEqual(raised(are_exchanges, store, ["main", 0], [0], 0), ("BadLine", 1))
        self.assertEqual(raised(are_exchanges, store, ["main"], ["one", []], 0), ("BadLine", 1))
        for thing in any_objects():
            self.assertEqual(raised(first_led, store, ["main", thing]), ("BadLine", 1))
            if not isinstance(thing, (list, tuple)):
                self.assertEqual(raised(first_led, store, thing), ("BadLine", 0))

    def test_the_example(self):
        store = example_10()
        self.assertEqual(places_part(store, "one", "two"), (("main",), ()))
        self.assertEqual(places_part(store, "main", "one"), ((), ()))
        self.assertIsNone(places_part(store, "main", "two"))
        self.assertEqual(first_led(store, ["two", "main", "one"]), ["main", "two", "one"])
        self.assertEqual(exchanges(store, ["two", "main", "one"], ["main", "two", "one"]), [0])
        self.assertEqual(pair_against(store, ["main", "one", "two"], ["main", "two", "one"]), ("one", "two"))


class TestExchanges(unittest.TestCase):
    def check_lines(self, store, pairs, one, other):
        """What is told of two lines, held against all lines to which the first is led."""
        found = plain_led(pairs, one)
        told = exchanges(store, list(one), list(other))
        against = pair_against(store, list(one), list(other))
        self.assertEqual(told is None, tuple(other) not in found)
        self.assertEqual(told is None, against is not None)
        if told is not None:
            self.assertEqual(len(told), found[tuple(other)])
            self.assertIs(are_exchanges(store, one, other, told), True)
            self.assertIsNone(lines_part(store, one, other))
        else:
            self.assertEqual(against, self.plain_pair_against(store, pairs, one, other))
        return told

    def plain_pair_against(self, store, pairs, one, other):
        for first, second in itertools.combinations_with_replacement(store.files(), 2):
            if first == second:
                if list(one).count(first) != list(other).count(first):
                    return (first, second)
            elif (first, second) not in pairs:
                if [n for n in one if n in (first, second)] != [n for n in other if n in (first, second)]:
                    return (first, second)
        return None

    def test_against_all_exchanges(self):
        led = unled = 0
        stores = [free_store(), example_10(), *[random_store(seed, 4) for seed in range(25)]]
        for seed, store in enumerate(stores):
            pairs = free_pairs(store)
            dice = random.Random(seed)
            for _ in range(25):
                one = [dice.choice(store.files()) for _ in range(dice.randint(0, 5))]
                other = dice.choice([dice.sample(one, len(one)), dice.choice(sorted(plain_led(pairs, one)))])
                if dice.random() < 0.2:
                    other = [dice.choice(store.files()) for _ in one]
                told = self.check_lines(store, pairs, one, other)
                led += bool(told)
                unled += told is None
                self.assertEqual(first_led(store, one), list(min(plain_led(pairs, one))))
        self.assertGreater(min(led, unled), 100)

    def test_as_few_as_pairs_that_stand_the_other_way_round(self):
        store = free_store()
        for one in itertools.product("abcd", repeat=4):
            other = first_led(store, one)
            told = exchanges(store, one, other)
            now = [(name, list(one[:at]).count(name)) for at, name in enumerate(one)]
            goal = [(name, other[:at].count(name)) for at, name in enumerate(other)]
            turned = [1 for x, y in itertools.combinations(now, 2) if goal.index(x) > goal.index(y)]
            self.assertEqual(len(told), len(turned))

    def test_are_exchanges(self):
        store = free_store()
        pairs = free_pairs(store)
        one = ["b", "a", "c", "d"]
        for row in lines_up_to("0123", 3):
            row = [int(sign) for sign in row]
            now, sound = list(one), True
            for at in row:
                sound = sound and at < 3 and (now[at], now[at + 1]) in pairs
                if sound:
                    now[at], now[at + 1] = now[at + 1], now[at]
            if sound:
                self.assertIs(are_exchanges(store, one, now, row), True)
                self.assertIs(are_exchanges(store, as_tuples(one), tuple(now), tuple(row)), True)
                self.assertIs(are_exchanges(store, one, [*now[1:], now[0]], row), False)
            else:
                self.assertIs(are_exchanges(store, one, now, row), False)
        for thing in [*any_objects(), [True], [-1], ["0"], [[0]], [None], {0: 0}]:
            if not thing == [] and not thing == ():
                self.assertIs(are_exchanges(store, one, one, thing), False)
        self.assertIs(are_exchanges(store, ["a", "a"], ["a", "a"], [0]), False)
        self.assertIs(are_exchanges(store, one, one, []), True)

    def test_first_led_takes_the_first_that_can_pass_all_ahead(self):
        store = free_store()
        pairs = free_pairs(store)
        for line in itertools.product("abce", repeat=4):
            left, told = list(line), []
            while left:
                free = [name for at, name in enumerate(left) if all((ahead, name) in pairs for ahead in left[:at])]
                told.append(min(free))
                left.remove(min(free))
            self.assertEqual(first_led(store, line), told)

    def test_lines_of_unlike_length(self):
        store = free_store()
        self.assertIsNone(exchanges(store, ["a"], ["a", "a"]))
        self.assertEqual(pair_against(store, ["a"], ["a", "a"]), ("a", "a"))
        self.assertIsNone(exchanges(store, ["a", "b"], ["a", "c"]))
        self.assertEqual(exchanges(store, [], []), [])

    def test_alike_lines_need_not_be_led(self):
        store = Store({"a": obj("x"), "b": obj("", "x"), "n": Archive([])})
        self.assertIsNone(lines_part(store, ["n", "a"], ["a"]))
        self.assertIsNone(exchanges(store, ["n", "a"], ["a"]))

    def test_lists_names_and_new_things(self):
        store = free_store()
        call_alike(self, first_led, store, ["c", "b", "a"])
        call_alike(self, exchanges, store, ["c", "b", "a"], ["a", "b", "c"])
        call_alike(self, exchanges, store, ["a", "b"], ["a", "b"])
        call_alike(self, are_exchanges, store, ["c", "b"], ["b", "c"], [0])
        call_alike(self, pair_against, store, ["c", "b", "a"], ["a", "b", "c"])
        call_alike(self, pair_against, store, ["e", "d"], ["d", "e"])
