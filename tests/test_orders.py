"""Promises 17 and 18: all orders of some files."""

import itertools
import unittest

from linklines.orders import how_many_link, order_that_links, orders_part
from linklines.places import places_part
from linklines.stores import Store
from tests.tools import any_objects, call_alike, example_10, obj, plain_outcome, raised, random_store


class TestOrders(unittest.TestCase):
    def test_against_all_orders(self):
        parted = linking = 0
        for seed in range(150):
            store = random_store(seed, 4)
            names = store.files()[::-1]
            ends = {order: plain_outcome(store, order) for order in itertools.permutations(sorted(names))}
            good = [order for order, end in ends.items() if end[0] == "links"]
            self.assertEqual(call_alike(self, how_many_link, store, names), len(good))
            self.assertEqual(call_alike(self, order_that_links, store, names), list(good[0]) if good else None)
            told = call_alike(self, orders_part, store, names)
            self.assertEqual(told, self.first_pair(ends))
            self.assertEqual(told is None, len(set(ends.values())) == 1)
            if all(places_part(store, *pair) is None for pair in itertools.combinations(names, 2)):
                self.assertIsNone(told)
            parted += told is not None
            linking += 0 < len(good) < len(ends)
        self.assertGreater(min(parted, linking), 10)

    def first_pair(self, ends):
        for one in sorted(ends):
            for other in sorted(ends):
                unlike = [at for at in range(len(one)) if one[at] != other[at]]
                if len(unlike) == 2 and unlike[1] == unlike[0] + 1 and ends[one] != ends[other]:
                    return (one, other)
        return None

    def test_orders_can_be_alike_where_neighbours_may_not_change_places(self):
        store = example_10()
        self.assertIsNotNone(places_part(store, "one", "two"))
        self.assertIsNone(orders_part(store, ["one", "two"]))

    def test_some_names_and_none(self):
        store = example_10()
        self.assertIsNone(orders_part(store, []))
        self.assertEqual(order_that_links(store, []), [])
        self.assertEqual(how_many_link(store, []), 1)
        self.assertEqual(order_that_links(store, ["main"]), None)
        self.assertEqual(how_many_link(store, ["two", "one"]), 2)
        many = Store({word: obj(word) for word in "abcdef"})
        self.assertEqual(how_many_link(many, list("fedcba")), 720)
        self.assertEqual(order_that_links(many, list("fedcba")), list("abcdef"))

    def test_errors(self):
        store = example_10()
        for function in (orders_part, order_that_links, how_many_link):
            for thing in [*any_objects(), "lacks", "main"]:
                self.assertEqual(raised(function, store, ["main", thing, 0]), ("BadPick", 1))
                if not isinstance(thing, (list, tuple)):
                    self.assertEqual(raised(function, store, thing), ("BadPick", 0))
            self.assertEqual(raised(function, store, ["one", "two", "one"]), ("BadPick", 2))

    def test_the_example(self):
        store = example_10()
        names = ["two", "one", "main"]
        self.assertEqual(orders_part(store, names), (("main", "one", "two"), ("main", "two", "one")))
        self.assertEqual(how_many_link(store, names), 1)
        self.assertEqual(order_that_links(store, names), ["main", "one", "two"])
