"""Promises 13, 14 and 18: alike lines, sound lots, files that can be left out."""

import itertools
import unittest

from linklines.alikelines import are_sound, kinds, line_that_needs, lines_part, needless
from linklines.objects import Archive, Library, Object
from linklines.stands import outcome, stand_behind, stands
from linklines.stores import Store
from tests.test_stands import small_stores
from tests.tools import any_objects, as_lists, as_tuples, call_alike, example_10, lines_up_to, obj, plain_outcome
from tests.tools import raised, random_store


def plain_parting(store, one, other, most):
    for line in lines_up_to(store.files(), most):
        if plain_outcome(store, [*one, *line]) != plain_outcome(store, [*other, *line]):
            return list(line)
    return None


def plain_sound(store, lots):
    """Whether lots are sound, by the words of the document."""
    numbers = [number for lot in lots for number in lot]
    if sorted(numbers) != list(range(len(stands(store)))) or () in lots:
        return False
    lines = [line for line, _ in stands(store)]
    lot_of = {number: at for at, lot in enumerate(lots) for number in lot}
    for lot in lots:
        if len({outcome(store, lines[number]) for number in lot}) > 1:
            return False
        for name in store.files():
            if len({lot_of[stand_behind(store, number, name)] for number in lot}) > 1:
                return False
    return True


def all_lots(many):
    """All ways to put the numbers below many into lots."""
    if many == 0:
        yield []
        return
    for lots in all_lots(many - 1):
        yield [*lots, (many - 1,)]
        for at in range(len(lots)):
            yield [*lots[:at], (*lots[at], many - 1), *lots[at + 1:]]


class TestAlikeLines(unittest.TestCase):
    def test_lines_that_part(self):
        parted = longer = alike = 0
        for store in small_stores(20):
            lines = list(lines_up_to(store.files(), 2))
            for one, other in itertools.combinations(lines, 2):
                told = lines_part(store, list(one), list(other))
                self.assertEqual(told, plain_parting(store, one, other, 3))
                parted += told == []
                longer += told is not None and told != []
                alike += told is None
        self.assertGreater(min(parted, longer, alike), 20)

    def test_kinds_are_the_greatest_lots_of_alike_ones(self):
        joined = 0
        for store in small_stores(30):
            lines = [line for line, _ in stands(store)]
            expected = []
            for number, line in enumerate(lines):
                for lot in expected:
                    if lines_part(store, lines[lot[0]], line) is None:
                        lot.append(number)
                        break
                else:
                    expected.append([number])
            told = call_alike(self, kinds, store)
            self.assertEqual(told, [tuple(lot) for lot in expected])
            self.assertIs(are_sound(store, told), True)
            joined += len(told) < len(lines)
        self.assertGreater(joined, 8)

    def test_sound_lots(self):
        sound = unsound = 0
        for store in [store for store in small_stores(40) if len(stands(store)) <= 5]:
            best = kinds(store)
            for lots in all_lots(len(stands(store))):
                told = are_sound(store, lots)
                self.assertIs(told, plain_sound(store, lots))
                self.assertIs(are_sound(store, as_tuples(lots[::-1])), told)
                self.assertIs(are_sound(store, as_lists(lots)), told)
                sound += told
                unsound += not told
                if told:
                    self.assertTrue(all(any(set(lot) <= set(kind) for kind in best) for lot in lots))
        self.assertGreater(min(sound, unsound), 20)

    def test_any_object_can_be_asked_about(self):
        store = example_10()
        bad = [*any_objects(), [(0,), (1,), (2,)], [(0,), (1,), (2,), (3,), (4,)], [(0,), (1,), (2,), (3,), ()],
               [(0,), (1,), (2,), (3, 3)], [(0,), (1,), (2,), (4,)], [(0,), (1,), (2,), (10 ** 30,)], [(0,), (1,), (2,), (3,), (0,)], [(0,), (True,), (2,), (3,)],
               [(False,), (1,), (2,), (3,)], [(0,), (1,), (2,), ([3],)], [0, 1, 2, 3], [(0, 1), (2,), (3,)],
               [(0,), (1,), (2,), ("3",)], [(0,), (1,), (2,), (-1,)], {0: 0}]
        for thing in bad:
            self.assertIs(are_sound(store, thing), False)
        self.assertIs(are_sound(store=store, thing=[[3], (0,), [1], [2]]), True)
        call_alike(self, are_sound, store, [[3], (0,), [1], [2]])

    def test_errors(self):
        store = example_10()
        for thing in [*any_objects(), "lacks"]:
            self.assertEqual(raised(lines_part, store, ["main", thing], [thing]), ("BadLine", 1))
            self.assertEqual(raised(lines_part, store, ["main"], [thing]), ("BadLine", 0))
            self.assertEqual(raised(line_that_needs, store, thing), ("NoFile", thing))
        self.assertEqual(raised(lines_part, store, 0, ["main", 0]), ("BadLine", 0))
        call_alike(self, lines_part, store, ["main"], ["main", "one"])
        call_alike(self, lines_part, store, ["main"], ["two", "main"])


class TestLeftOut(unittest.TestCase):
    def test_lines_that_need_a_file(self):
        longest = 0
        for store in small_stores(40):
            free = []
            for name in store.files():
                expected = None
                for line in lines_up_to(store.files(), 4):
                    if plain_outcome(store, line) != plain_outcome(store, [word for word in line if word != name]):
                        expected = list(line)
                        break
                told = call_alike(self, line_that_needs, store, name)
                self.assertEqual(told, expected)
                longest = max(longest, len(told or []))
                if told is None:
                    free.append(name)
            self.assertEqual(call_alike(self, needless, store), free)
        self.assertGreater(longest, 2)

    def test_a_needless_file_leads_from_each_stand_to_an_alike_one(self):
        for seed in range(60):
            store = random_store(seed, 4)
            lot_of = {number: lot for lot in kinds(store) for number in lot}
            free = [name for name in store.files()
                    if all(lot_of[stand_behind(store, number, name)] == lot_of[number] for number in lot_of)]
            self.assertEqual(needless(store), free)

    def test_sure_cases(self):
        store = Store({"e": Archive([]), "f": Archive([("p", obj("", "a"))]), "l": Library([]), "o": Object({}),
                       "m": obj("a"), "g": ["e", "f"]})
        self.assertEqual(needless(store), ["e", "f", "g", "l", "o"])
        self.assertEqual(line_that_needs(store, "m"), ["m"])

    def test_facts_of_reading_again(self):
        for seed in range(120):
            store = random_store(seed, 5)
            for name in store.files():
                held = store.file(name)
                for ahead in [[], store.files(), store.files()[::-1]]:
                    line = [*ahead, name]
                    self.assertIsNone(lines_part(store, [*line, name], line))
                    if isinstance(held, Object):
                        self.assertIsNone(lines_part(store, [*line, *ahead, name], [*line, *ahead]))
                    if isinstance(held, tuple):
                        if len(set(held)) == 1:
                            self.assertIsNone(lines_part(store, line, [*ahead, held[0]]))
                        many = sum(len(store.file(archive).members()) for archive in held)
                        self.assertIsNone(lines_part(store, line, [*ahead, *(list(held) * many)]))

    def test_the_example(self):
        store = example_10()
        self.assertEqual(kinds(store), [(0,), (1,), (2,), (3,)])
        self.assertEqual(needless(store), [])
        self.assertEqual(line_that_needs(store, "two"), ["main", "one", "two"])
