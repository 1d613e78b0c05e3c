"""Promises 78 to 80, 83 and their part of the example of 84: sheets, alike sections, folded sheets."""

import itertools
import random
import unittest

from linklines.folding import are_lots, folded, lots, sheet_folded, unlike
from linklines.keeping import kept, parts_by_order, rules_of
from linklines.objects import Archive, Library, Object
from linklines.programs import linked
from linklines.sheets import Sheet, sheet_of, word_of_number
from linklines.stores import Store
from tests.tools import any_objects, call_alike, raised, spoil


def example_84():
    return Sheet({"a": [1, ("b", 0)], "b": [2, ("a", 0)], "c": [1, ("d", 0)], "d": [2, ("c", 0)], "e": [1, ("e", 0)]})


def random_sheet(dice, many=5, most=3):
    names = "abcdefgh"[:many]
    return Sheet({name: [dice.choice([0, 1, (dice.choice(names), 0), (dice.choice(names), dice.randint(0, 1))])
                         for _ in range(dice.randint(0, most))] for name in names})


def likely_sheet(dice, many=6):
    """A sheet in which much is alike, or is unlike only some references on."""
    names = "abcdefgh"[:many]
    made = {}
    for name in names:
        forms = [[1], [(dice.choice(names), 0)], [(dice.choice(names), 0)], [(dice.choice(names), 0), (dice.choice(names), 0)]]
        made[name] = dice.choice(forms)
    return Sheet(made)


def all_partitions(names):
    if not names:
        yield []
        return
    for found in all_partitions(names[1:]):
        yield [[names[0]], *found]
        for at in range(len(found)):
            yield [*found[:at], [names[0], *found[at]], *found[at + 1:]]


def plain_are_lots(sheet, lot_list):
    where = {name: at for at, lot in enumerate(lot_list) for name in lot}
    for lot in lot_list:
        for one, other in itertools.combinations(lot, 2):
            cells = (sheet.body(one), sheet.body(other))
            if len(cells[0]) != len(cells[1]):
                return False
            for cell, further in zip(*cells):
                if isinstance(cell, int) or isinstance(further, int):
                    if cell != further:
                        return False
                elif cell[1] != further[1] or where[cell[0]] != where[further[0]]:
                    return False
    return True


def coarsest(sheet):
    fitting = [found for found in all_partitions(list(sheet.bodies())) if plain_are_lots(sheet, found)]
    return min(fitting, key=len), fitting


def plain_unlike(sheet, one, other, most=5):
    """The first row of numbers, by its length, that parts two sections; None if none of at most so many does."""
    for many in range(1, most + 1):
        for row in itertools.product(range(4), repeat=many):
            here, there = one, other
            for number in row[:-1]:
                cells = [sheet.body(name)[number:number + 1] for name in (here, there)]
                if not all(cell and isinstance(cell[0], tuple) for cell in cells):
                    break
                here, there = cells[0][0][0], cells[1][0][0]
            else:
                cells = [sheet.body(name)[row[-1]:row[-1] + 1] for name in (here, there)]
                heads = [(cell[0][1], "to") if cell and isinstance(cell[0], tuple) else cell for cell in cells]
                if heads[0] != heads[1]:
                    return list(row)
    return None


class TestSheets(unittest.TestCase):
    def test_what_is_told(self):
        bodies = {"b": [1, ["a", -2]], "a": []}
        sheet = Sheet(bodies)
        self.assertEqual(list(sheet.bodies().items()), [("a", []), ("b", [1, ("a", -2)])])
        self.assertEqual(sheet.body(name="b"), [1, ("a", -2)])
        bodies["b"].append(3)
        spoil(sheet.bodies())
        spoil(sheet.bodies()["b"])
        spoil(sheet.body("b"))
        self.assertEqual(sheet, Sheet(bodies={"a": (), "b": (1, ("a", -2))}))
        for other in [Sheet({"a": [], "b": [1, ("a", 2)]}), Sheet({"a": []}), *any_objects()]:
            self.assertFalse(sheet == other)
        self.assertEqual(Sheet({}).bodies(), {})

    def test_bad_bodies(self):
        for thing in any_objects():
            if not isinstance(thing, dict):
                self.assertEqual(raised(Sheet, thing), ("BadBody", None))
            if not isinstance(thing, (list, tuple)) or thing:
                self.assertEqual(raised(Sheet, {"b": [], "a": thing, "c": None}), ("BadBody", "a"))
            if not isinstance(thing, int) or isinstance(thing, bool):
                self.assertEqual(raised(Sheet, {"b": [1, thing], "a": []}), ("BadBody", "b"))
                self.assertEqual(raised(Sheet, {"b": [1, ("a", thing)], "a": []}), ("BadBody", "b"))
            self.assertEqual(raised(Sheet, {"b": [1, (thing, 0)], "a": []}), ("BadBody", "b"))
        for key in ("A", "", None, 1, ("a",), "a" * 9):
            self.assertEqual(raised(Sheet, {"b": [], key: [], "a": None}), ("BadBody", key))
        self.assertEqual(raised(Sheet, {"b": [("c", 0)]}), ("BadBody", "b"))
        self.assertEqual(raised(Sheet, {"b": [("b", 0, 0)]}), ("BadBody", "b"))

    def test_no_body(self):
        sheet = example_84()
        for thing in [*any_objects(), "f"]:
            self.assertEqual(raised(sheet.body, thing), ("NoBody", thing))
            self.assertEqual(raised(unlike, sheet, thing, None), ("NoBody", thing))
            self.assertEqual(raised(unlike, sheet, "a", thing), ("NoBody", thing))

    def test_sheets_of_programs(self):
        part = ("x", "rw", 4, [7, ("f", 5), ("g", 6), ("h", -1), ("k", 2), ("n", 3), ("m", 1)])
        store = Store({
            "main": Object({"m": ("strong", (1, 2)), "k": ("common", 9)}, ["f", "g", "h"], ["n"], [part, ("z", "r", 1, 3)]),
            "ar": Archive([("p", Object({"f": ("weak", (0, 1))}, [], [], [("y", "r", 1, [8, 9])])),
                           ("q", Object({"g": ("strong", None)}))]),
            "lib": Library(["h"])})
        told = call_alike(self, sheet_of, store, ["main", "ar", "lib"])
        self.assertEqual(told, Sheet({"a": [7, ("c", 6), 6, -1, 2, 3, ("b", 3)], "b": [0, 0, 0], "c": [8, 9]}))
        self.assertEqual(sheet_of(store=store, line=["lib"]), Sheet({}))
        for line in (None, ["main"], ["no"], ["main", "ar", "lib", "no"]):
            self.assertEqual(raised(sheet_of, store, line), raised(linked, store, line))
            self.assertIsNotNone(raised(sheet_of, store, line))

    def test_names_beyond_z(self):
        files = {"f" + one + other: Object({"n" + one + other: ("strong", (0, 0))}, [], [], [("x", "r", 1, [at])] * 39)
                 for at, (one, other) in enumerate(itertools.product("ab", "abcde"))}
        sheet = sheet_of(Store(files), sorted(files))
        names = list(sheet.bodies())
        self.assertEqual(len(names), 390)
        self.assertEqual(sorted(names, key=lambda name: (len(name), name))[:28][-3:], ["z", "aa", "ab"])
        self.assertEqual(sheet.body("z"), [0])
        self.assertEqual(sheet.body("am"), [0])
        self.assertEqual(sheet.body("an"), [1])
        self.assertEqual(sheet.body("nz"), [9])
        self.assertEqual(len(lots(sheet)), 10)
        self.assertEqual([word_of_number(number) for number in (25, 26, 51, 52, 701, 702, 703, 728)],
                         ["z", "aa", "az", "ba", "zz", "aaa", "aab", "aba"])


class TestAlike(unittest.TestCase):
    def test_lots_are_the_fewest_sound_ones(self):
        shared = 0
        for seed in range(60):
            dice = random.Random(seed)
            sheet = random_sheet(dice, dice.randint(1, 5), 2)
            fewest, fitting = coarsest(sheet)
            self.assertEqual(lots(sheet), sorted(tuple(sorted(lot)) for lot in fewest))
            where = {name: at for at, lot in enumerate(fewest) for name in lot}
            for found in fitting:
                self.assertTrue(all(len({where[name] for name in lot}) == 1 for lot in found))
            for found in all_partitions(list(sheet.bodies())):
                dice.shuffle(found)
                self.assertIs(are_lots(sheet, found), plain_are_lots(sheet, found))
            shared += len(fewest) < len(sheet.bodies())
        self.assertGreater(shared, 20)

    def test_what_is_no_lots(self):
        sheet = example_84()
        good = [("b", "d"), ("e",), ("a", "c")]
        self.assertIs(call_alike(self, are_lots, sheet, good), True)
        for thing in [*any_objects(), good[:2], [*good, ()], [*good, ("e",)], [*good, ("f",)], [("b", "d"), "e", ("a", "c")],
                      [("b", "d", "b"), ("e",), ("a", "c")], [("b", "d"), ("e", None), ("a", "c")], [("a", "b", "c", "d", "e")],
                      [("a", "c"), ("b",), ("d",), ("e",)], [("b", "d"), ("e", []), ("a", "c")],
                      [("b", "d"), ("e", {}), ("a", "c")]]:
            self.assertIs(are_lots(sheet, thing), False)
        self.assertIs(are_lots(sheet, [("a",), ("b",), ("c",), ("d",), ("e",)]), True)
        self.assertIs(are_lots(Sheet({}), []), True)

    def test_first_unlike_cells(self):
        rows = {}
        for seed in range(80):
            dice = random.Random(seed)
            sheet = random_sheet(dice, 5, 3) if seed % 2 else likely_sheet(dice, 5)
            together = {name: lot for lot in lots(sheet) for name in lot}
            for one, other in itertools.product(sheet.bodies(), repeat=2):
                told = unlike(sheet, one, other)
                self.assertIs(told is None, together[one] == together[other])
                if told is None or len(told) <= 4:
                    self.assertEqual(told, plain_unlike(sheet, one, other, 4))
                rows[len(told or [])] = rows.get(len(told or []), 0) + 1
        self.assertGreater(min(rows[0], rows[1], rows[2]), 30, rows)

    def test_along_rings_and_by_lengths(self):
        ring = {name: [0, (other, 0)] for name, other in zip("abcdef", "bcdefa")}
        self.assertEqual(lots(Sheet(ring)), [tuple("abcdef")])
        broken = Sheet({**ring, "f": [1, ("a", 0)]})
        self.assertEqual(len(lots(broken)), 6)
        self.assertEqual(unlike(broken, "a", "b"), [1, 1, 1, 1, 0])
        self.assertEqual(unlike(Sheet({"a": [1], "b": [1, 2]}), "a", "b"), [1])
        self.assertEqual(unlike(Sheet({"a": [1, 3], "b": [1]}), "a", "b"), [1])
        self.assertEqual(unlike(Sheet({"a": [], "b": [("b", 1)]}), "a", "b"), [0])
        self.assertEqual(unlike(Sheet({"a": [("a", 0)], "b": [("b", 1)], "c": [1]}), "a", "b"), [0])
        self.assertEqual(unlike(Sheet({"a": [("a", 0)], "c": [0]}), "a", "c"), [0])
        self.assertEqual(lots(Sheet({"a": [], "b": []})), [("a", "b")])


class TestFolded(unittest.TestCase):
    def test_where_each_leads(self):
        for seed in range(150):
            dice = random.Random(seed)
            sheet = random_sheet(dice, 6, 2)
            apart = dice.sample(sorted(sheet.bodies()), dice.randint(0, 3))
            told = folded(sheet, apart)
            self.assertEqual(list(told), sorted(sheet.bodies()))
            for lot in lots(sheet):
                mine = sorted(set(lot) & set(apart))
                for name in lot:
                    self.assertEqual(told[name], name if name in apart else (mine or sorted(lot))[0])
            small = sheet_folded(sheet, apart)
            self.assertEqual(sorted(small.bodies()), sorted(set(told.values())))
            for name, cells in small.bodies().items():
                self.assertEqual(cells, [cell if isinstance(cell, int) else (told[cell[0]], cell[1]) for cell in sheet.body(name)])
            # no map of the sections to alike ones under which those apart stay unlike has fewer worths
            self.assertEqual(len(small.bodies()), sum(max(1, len(set(lot) & set(apart))) for lot in lots(sheet)))
            if not apart:
                self.assertEqual(sheet_folded(small), small)
            # each section of the folded sheet is alike to those for which it stands
            both = Sheet({**sheet.bodies(), **{"x" + name: [cell if isinstance(cell, int) else ("x" + cell[0], cell[1])
                                                            for cell in cells] for name, cells in small.bodies().items()}})
            for name in told:
                self.assertIsNone(unlike(both, name, "x" + told[name]))

    def test_bad_apart(self):
        sheet = example_84()
        for function, more in ((folded, ()), (sheet_folded, ()), (parts_by_order, (None,))):
            for thing in any_objects():
                if not isinstance(thing, (list, tuple)):
                    self.assertEqual(raised(function, sheet, thing, *more), ("BadApart", 0))
                self.assertEqual(raised(function, sheet, ["b", thing, 0], *more), ("BadApart", 1))
            self.assertEqual(raised(function, sheet, ["b", "a", "b"], *more), ("BadApart", 2))
            self.assertEqual(raised(function, sheet, ["f"], *more), ("BadApart", 0))
        self.assertEqual(raised(parts_by_order, sheet, ["a"], None), ("BadRoots", 0))
        self.assertEqual(raised(parts_by_order, sheet, ["a"], ["a", "f"]), ("BadRoots", 1))

    def test_folded_first_or_kept_first(self):
        unlike_ones = 0
        for seed in range(500):
            dice = random.Random(seed)
            sheet = likely_sheet(dice)
            names = sorted(sheet.bodies())
            apart, roots = dice.sample(names, dice.randint(0, 4)), dice.sample(names, dice.randint(0, 3))
            leads = folded(sheet)
            first = kept(rules_of(sheet_folded(sheet)), sorted({leads[root] for root in roots}))
            left = kept(rules_of(sheet), roots)
            self.assertEqual(first, sorted({leads[name] for name in left}))
            self.assertIs(parts_by_order(sheet, [], roots), False)
            leads = folded(sheet, apart)
            first = kept(rules_of(sheet_folded(sheet, apart)), sorted({leads[root] for root in roots}))
            second = folded(Sheet({name: sheet.body(name) for name in left}), [name for name in apart if name in left])
            told = parts_by_order(sheet, apart, roots)
            self.assertIs(told, len(first) != len(set(second.values())))
            unlike_ones += told
        self.assertGreater(unlike_ones, 5)

    def test_the_example(self):
        sheet = example_84()
        self.assertEqual(call_alike(self, lots, sheet), [("a", "c"), ("b", "d"), ("e",)])
        self.assertEqual(call_alike(self, unlike, sheet, "a", "e"), [1, 0])
        self.assertEqual(call_alike(self, folded, sheet, ["c", "a"])["b"], "b")
        self.assertEqual(call_alike(self, folded, sheet), {"a": "a", "b": "b", "c": "a", "d": "b", "e": "e"})
        self.assertEqual(sorted(call_alike(self, sheet_folded, sheet, []).bodies()), ["a", "b", "e"])
        self.assertEqual(sheet_folded(sheet=sheet, apart=["d"]).bodies(),
                         {"a": [1, ("d", 0)], "d": [2, ("a", 0)], "e": [1, ("e", 0)]})
        sheet = Sheet({"a": [1], "c": [1], "d": [1], "r": [("a", 0), ("d", 0)]})
        self.assertIs(call_alike(self, parts_by_order, sheet, ["c", "d"], ["r"]), True)
        self.assertIs(parts_by_order(sheet=sheet, apart=(), roots=("r",)), False)

    def test_at_the_limits(self):
        names = [one + other for one in "abcd" for other in "abcdefghij"]
        sheet = Sheet({name: [0] * 7 + [(names[(at + 1) % 40], 0)] for at, name in enumerate(names)})
        self.assertEqual(lots(sheet), [tuple(names)])
        parted = Sheet({**sheet.bodies(), "dj": [1]})
        self.assertEqual(len(lots(parted)), 40)
        self.assertEqual(unlike(parted, "aa", "ab"), [7] * 38 + [0])


if __name__ == "__main__":
    unittest.main()
