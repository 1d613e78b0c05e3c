"""Promises 24 to 26: alike archives, silent wants, least archives."""

import itertools
import random
import unittest

from linklines.archives import archives_part, heard_main, least_archive, silent_wants
from linklines.mains import face, first_unclear
from linklines.objects import Archive, Library, Object
from linklines.stores import Store
from tests.tools import all_mains, any_objects, call_alike, obj, raised, random_clear_archives

NAMES = "abcdx"


def ends(store, name, is_open):
    """What all mains see of an archive."""
    return [face(store, [name], *main)[0 if is_open else 1:] for main in all_mains(NAMES)]


def varied(archive, dice):
    """The archive with some wants changed, or some members."""
    members = []
    for word, held in archive.members():
        wants = [want for want in held.wants() if dice.random() < 0.85]
        if dice.random() < 0.3:
            wants.extend(name for name in dice.sample(NAMES, 1) if name not in wants and name not in held.names())
        members.append((word, Object(held.names(), wants)))
    dice.shuffle(members)
    chance = dice.random()
    if chance < 0.15:
        members.pop()
    elif chance < 0.3 and len(members) > 1:
        (word, held), (_, further) = members.pop(), members.pop()
        told = {**held.names(), **further.names()}
        members.append((word, Object(told, sorted({*held.wants(), *further.wants()} - set(told)))))
    return Archive(members)


def without(archive, left_out):
    """The archive without some pairs (member, want)."""
    return Archive([(word, Object(held.names(), [want for want in held.wants() if (word, want) not in left_out]))
                    for word, held in archive.members()])


def some_stores(many):
    for seed in range(many):
        dice = random.Random(seed)
        archive = random_clear_archives(seed, 1, "abcd", 4)["one"]
        yield Store({"one": archive, "two": varied(archive, dice)})


class TestAlikeArchives(unittest.TestCase):
    def test_against_all_mains(self):
        counts = {}
        for store in some_stores(160):
            for is_open in (True, False):
                told = call_alike(self, archives_part, store, "one", "two", is_open)
                unlike = ends(store, "one", is_open) != ends(store, "two", is_open)
                self.assertEqual(told is not None, unlike)
                ahead = 0 if is_open else 1
                if told is not None:
                    self.assertEqual([list(part) for part in told], [sorted(part) for part in told])
                    self.assertNotEqual(face(store, ["one"], *told)[ahead:], face(store, ["two"], *told)[ahead:])
                same = least_archive(store, "one", is_open) == least_archive(store, "two", is_open)
                self.assertEqual(same, told is None)
                counts[(is_open, told is None)] = counts.get((is_open, told is None), 0) + 1
        self.assertGreater(min(counts.values()), 15)
        self.assertEqual(len(counts), 4)

    def test_open_mains_see_each_member(self):
        for store in some_stores(100):
            faces = [sorted((list(held.names()), held.wants()) for _, held in store.file(name).members()
                            if held.names()) for name in ("one", "two")]
            self.assertEqual(archives_part(store, "one", "two", True) is None, faces[0] == faces[1])

    def test_members_that_always_come_together_are_not_one(self):
        store = Store({"one": Archive([("p", obj("a", "b")), ("q", obj("b", "a"))]), "two": Archive([("p", obj("ab"))])})
        self.assertIsNotNone(archives_part(store, "one", "two", True))
        self.assertIsNotNone(archives_part(store, "one", "two", False))

    def test_members_that_tell_nothing_and_asks_do_not_count(self):
        store = Store({"one": Archive([("p", obj("a", "b", "c"))]),
                       "two": Archive([("z", obj("", "d")), ("q", obj("a", "b"))])})
        self.assertIsNone(archives_part(store, "one", "two", True))

    def test_errors(self):
        store = Store({"one": Archive([]), "two": Archive([("p", obj("a")), ("q", obj("ba"))]), "o": obj("a"),
                       "l": Library([]), "g": ["one"], "w": Archive([("p", Object({"b": ("weak", None)}))])})
        for thing in [*any_objects(), "lacks", "o", "l", "g"]:
            self.assertEqual(raised(archives_part, store, thing, 0, 0), ("NoArchive", thing))
            self.assertEqual(raised(archives_part, store, "two", thing, 0), ("NoArchive", thing))
            for function, *more in ((silent_wants,), (heard_main, 0, 0), (least_archive, 0)):
                self.assertEqual(raised(function, store, thing, *more), ("NoArchive", thing))
            if not isinstance(thing, bool):
                self.assertEqual(raised(archives_part, store, "one", "one", thing), ("BadMark", thing))
                self.assertEqual(raised(least_archive, store, "one", thing), ("BadMark", thing))
        self.assertEqual(raised(archives_part, store, "two", "w", 0), ("NotClear", "a"))
        self.assertEqual(raised(archives_part, store, "w", "two", 0), ("NotClear", "b"))
        self.assertEqual(raised(archives_part, store, "one", "w", 0), ("NotClear", "b"))
        for function, *more in ((silent_wants,), (heard_main, 0, 0), (least_archive, 0)):
            self.assertEqual(raised(function, store, "two", *more), ("NotClear", "a"))
        # each clear by itself is enough
        store = Store({"one": Archive([("p", obj("a"))]), "two": Archive([("p", obj("a"))])})
        self.assertIsNone(archives_part(store, "one", "two", True))


def plain_silent(archive):
    """The silent wants by the words of the document: all names come to, then the test of each."""
    tellers = {name: held for _, held in archive.members() for name in held.names()}
    found = []
    for word, held in archive.members():
        for want in held.wants() if held.names() else []:
            off = {*held.names(), *held.wants()} - {want}
            reached = {want}
            while True:
                further = {name for here in reached - off if here in tellers for name in tellers[here].wants()}
                if further <= reached:
                    break
                reached |= further
            if all(name in tellers and len(tellers[name].names()) == 1 for name in reached - off):
                found.append((word, want))
    return sorted(found)


class TestSilentWants(unittest.TestCase):
    def test_against_the_words_of_the_document(self):
        many = 0
        for store in some_stores(200):
            told = call_alike(self, silent_wants, store, "one")
            self.assertEqual(told, plain_silent(store.file("one")))
            many += len(told)
        self.assertGreater(many, 60)

    def test_they_may_be_left_out_one_by_one_or_all(self):
        for store in some_stores(40):
            silent = silent_wants(store, "one")
            for many in range(len(silent) + 1):
                for lot in itertools.combinations(silent, many):
                    cut = Store({"one": store.file("one"), "two": without(store.file("one"), lot)})
                    self.assertIsNone(archives_part(cut, "one", "two", False))

    def test_mains_that_hear(self):
        heard = 0
        for store in some_stores(150):
            silent = silent_wants(store, "one")
            for word, held in store.file("one").members():
                for want in held.wants() if held.names() else []:
                    told = call_alike(self, heard_main, store, "one", word, want)
                    self.assertEqual(told is None, (word, want) in silent)
                    if told is not None:
                        self.assertEqual([list(part) for part in told], [sorted(part) for part in told])
                        cut = Store({"one": store.file("one"), "two": without(store.file("one"), [(word, want)])})
                        self.assertNotEqual(face(cut, ["one"], *told)[1:], face(cut, ["two"], *told)[1:])
                        heard += 1
        self.assertGreater(heard, 100)

    def test_no_member_and_no_want(self):
        store = Store({"one": Archive([("p", obj("a", "b")), ("q", obj("", "a"))])})
        for thing in [*any_objects(), "lacks", "q", "a"]:
            self.assertEqual(raised(heard_main, store, "one", thing, 0), ("NoMember", thing))
            self.assertEqual(raised(heard_main, store, "one", "p", thing), ("NoWant", thing))
        self.assertEqual(heard_main(store, "one", "p", "b"), (("a",), ()))

    def test_least_archives(self):
        for store in some_stores(80):
            for is_open in (True, False):
                least = call_alike(self, least_archive, store, "one", is_open)
                self.check_least(store, least, is_open)

    def check_least(self, store, least, is_open):
        archive = store.file("one")
        silent = [] if is_open else silent_wants(store, "one")
        expected = sorted((list(held.names()), [want for want in held.wants() if (word, want) not in silent])
                          for word, held in archive.members() if held.names())
        self.assertEqual([(list(held.names()), held.wants()) for _, held in least.members()], expected)
        for word, held in least.members():
            self.assertEqual(word, list(held.names())[0])
            self.assertEqual(held, Object({name: ("strong", None) for name in held.names()}, held.wants()))
        both = Store({"one": archive, "two": least})
        self.assertIsNone(archives_part(both, "one", "two", is_open))
        self.assertEqual(ends(both, "one", is_open), ends(both, "two", is_open))
        self.assertEqual(least_archive(both, "two", is_open), least)
        self.assertIsNone(first_unclear(both, ["two"]))

    def test_alike_archives_tell_and_want_all_that_the_least_does(self):
        alike = 0
        for store in some_stores(160):
            for is_open in (True, False):
                if archives_part(store, "one", "two", is_open) is None:
                    held_by = {name: held for _, held in store.file("two").members() for name in held.names()}
                    for word, held in least_archive(store, "one", is_open).members():
                        self.assertEqual(list(held_by[word].names()), list(held.names()))
                        self.assertLessEqual(set(held.wants()), set(held_by[word].wants()))
                    alike += 1
        self.assertGreater(alike, 30)

    def test_spots_asks_and_sections_are_not_kept(self):
        held = Object({"b": ("strong", (0, 0)), "a": ("strong", None)}, ["c"], ["d"], [("t", "r", 1, 1)])
        store = Store({"one": Archive([("m", obj("e")), ("z", held), ("n", obj("", "a"))])})
        self.assertEqual(least_archive(store, "one", True), Archive([("a", obj("ab", "c")), ("e", obj("e"))]))

    def test_the_example(self):
        store = Store({"one": Archive([("m", obj("a", "q")), ("n", obj("q"))]),
                       "two": Archive([("m", obj("a")), ("n", obj("q"))])})
        self.assertEqual(silent_wants(store, "one"), [("m", "q")])
        self.assertIsNone(heard_main(store, "one", "m", "q"))
        self.assertIsNone(archives_part(store, "one", "two", False))
        told = archives_part(store, "one", "two", True)
        self.assertNotEqual(face(store, ["one"], *told), face(store, ["two"], *told))
        self.assertNotEqual(face(store, ["one"], ["a"], []), face(store, ["two"], ["a"], []))
        self.assertEqual(least_archive(store, "one", False), least_archive(store, "two", False))
