"""Promises 33 and 34: one library for several."""

import itertools
import random
import unittest

from linklines.merging import bar, merged
from linklines.objects import Library
from tests.tools import any_objects, call_alike, raised, random_library


def things_bound(row):
    """For each reference (place, name) of a row of libraries the place to which it is bound, or None."""
    told = {}
    for at, library in enumerate(row):
        for name in [*library.wants(), *library.asks()]:
            firsts = [place for place, other in enumerate(row) if name in other.tells()]
            own = library.own_first() and name in library.tells()
            told[(at, name)] = at if own else firsts[0] if firsts else None
    return told


def stands_for(one, libraries, contexts):
    """Whether one library stands for several in all these contexts, by the words of the document."""
    for ahead, behind in contexts:
        many = things_bound([*ahead, *libraries, *behind])
        single = things_bound([*ahead, one, *behind])

        def place_with_one(at):
            if at < len(ahead):
                return at
            return len(ahead) if at < len(ahead) + len(libraries) else at - len(libraries) + 1

        for first, second in itertools.combinations(many, 2):
            mapped = [(place_with_one(at), name) for at, name in (first, second)]
            met = first[1] == second[1] and many[first] is not None and many[first] == many[second]
            met_then = (first[1] == second[1] and single[mapped[0]] is not None
                        and single[mapped[0]] == single[mapped[1]])
            if met != met_then:
                return False
    return True


def all_contexts():
    """Rows of at most two libraries ahead and behind that tell and refer to what can matter."""
    singles = [Library(told, refs, [], [], own) for told in ([], ["m"]) for refs in ([], ["m"])
               for own in (False, True) if told and refs or not own]
    rows = [[], *[[library] for library in singles]]
    return list(itertools.product(rows, rows))


def as_one(libraries, own):
    """What the document says that the one library tells, wants and asks for."""
    tells = {name for library in libraries for name in library.tells()}
    wants = {name for library in libraries for name in library.wants()}
    asks = {name for library in libraries for name in library.asks()} - wants
    needs = list(dict.fromkeys(name for library in libraries for name in library.needs()))
    return Library(sorted(tells), sorted(wants), sorted(asks), needs, own, any(lib.stays() for lib in libraries))


class TestMerging(unittest.TestCase):
    def test_there_is_one_exactly_if_one_stands_for_them(self):
        contexts = all_contexts()
        dice = random.Random(5)
        found = {}
        for _ in range(250):
            libraries = [random_library(dice, ["m", "n"]) for _ in range(dice.randint(1, 3))]
            own = any(library.own_first() and name in library.tells()
                      for library in libraries for name in [*library.wants(), *library.asks()])
            one = as_one(libraries, own)
            told = call_alike(self, merged, libraries)
            against = call_alike(self, bar, libraries)
            works = stands_for(one, libraries, self.both_names(contexts))
            self.assertEqual(told, one if works else None)
            self.assertEqual(against is None, works)
            self.assertEqual(against, self.plain_bar(libraries))
            key = None if against is None else against[0]
            found[key] = found.get(key, 0) + 1
        self.assertGreater(min(found[key] for key in (None, "two", "mixed")), 8)

    def both_names(self, contexts):
        """The contexts, and the same with n for m."""
        def turned(library):
            tells, wants = [["n"] if row else [] for row in (library.tells(), library.wants())]
            return Library(tells, wants, [], [], library.own_first())
        return [*contexts, *[([turned(library) for library in ahead], [turned(library) for library in behind])
                             for ahead, behind in contexts]]

    def plain_bar(self, libraries):
        refs = [(at, name) for at, library in enumerate(libraries)
                for name in sorted([*library.wants(), *library.asks()])]
        own = {(at, name): libraries[at].own_first() and name in libraries[at].tells() for at, name in refs}
        for at, name in refs:
            if own[(at, name)] and any(name in library.tells() for library in libraries[:at]):
                return ("two", at, name)
        inner = [(at, name) for at, name in refs if any(name in library.tells() for library in libraries)]
        marks = [own[pair] for pair in inner]
        if True in marks and False in marks:
            return ("mixed", inner[marks.index(True)], inner[marks.index(False)])
        return None

    def test_what_it_is(self):
        one = Library(["b", "a"], ["x"], ["y", "z"], ["q", "p"], True, False)
        other = Library(["a", "c"], ["y"], ["x", "v"], ["r", "q"], False, True)
        self.assertEqual(merged([one, other]),
                         Library(["a", "b", "c"], ["x", "y"], ["v", "z"], ["q", "p", "r"], False, True))
        self.assertEqual(merged(libraries=(Library(["a"], ["a"], [], [], True),)), Library(["a"], ["a"], [], [], True))
        self.assertEqual(merged([Library(["a"], ["b"], [], [], True)]), Library(["a"], ["b"]))

    def test_bars(self):
        a, b = Library(["m"]), Library(["m"], ["m"], [], [], True)
        self.assertEqual(bar([a, b]), ("two", 1, "m"))
        self.assertIsNone(bar([b, a]))
        self.assertEqual(bar([b, Library([], ["m"])]), ("mixed", (0, "m"), (1, "m")))
        self.assertEqual(bar([Library(["n"], [], ["m"]), b]), ("mixed", (1, "m"), (0, "m")))
        self.assertIsNone(merged([a, b]))
        self.assertIsNone(merged([b, Library([], ["m"])]))

    def test_bad_lists(self):
        for function in (merged, bar):
            for thing in any_objects():
                if not isinstance(thing, Library):
                    self.assertEqual(raised(function, [Library([]), thing, 0]), ("BadList", 1))
                if not isinstance(thing, (list, tuple)) or len(thing) == 0:
                    self.assertEqual(raised(function, thing), ("BadList", 0))

    def test_the_example(self):
        a, b = Library(["n"], [], [], ["b"]), Library(["m"])
        told = merged([a, b])
        self.assertEqual((told.tells(), told.needs()), (["m", "n"], ["b"]))
