"""Promises 86 to 88 and their part of the example of 91: changes, what moves, what is filled anew."""

import itertools
import random
import unittest

from linklines.changes import Changes, face_of, filled_anew, growing, least_growths, moving, unseen
from linklines.images import Image, anew
from linklines.objects import Archive, Library, Object
from linklines.programs import linked
from linklines.stores import Store
from tests.image_tools import example_91, longer, random_parted_store, with_object
from tests.tools import any_objects, call_alike, raised, spoil

LINE = ["main", "lib", "end"]


def is_below(one, other):
    return all(a <= b for a, b in zip(one, other))


class Asked:
    """A program, some of its objects that can be otherwise, and the images of all growths."""

    def __init__(self, seed):
        self.dice = random.Random(seed)
        while True:
            self.store, self.line = random_parted_store(seed)
            self.program = linked(self.store, self.line)
            takens = self.program.taken()
            self.rows = {}
            for who in self.dice.sample(takens, self.dice.randint(0, min(3, len(takens)))):
                self.rows[who] = self.dice.choice(["spots", 0, 1, 2, 3, 4])
            self.parts = [(who, number) for who, number, _ in self.program.sections() if self.rows.get(who, "spots") != "spots"]
            mosts = [self.rows[who] for who, _ in self.parts]
            self.growths = list(itertools.product(*[range(most + 1) for most in mosts]))
            if len(self.parts) <= 3 and len(self.growths) <= 60:
                break
            seed += 10000
        self.images = {growths: Image(linked(self.changed(growths), self.line)) for growths in self.growths}
        self.changes = Changes(self.program, self.rows)

    def changed(self, growths, spots=()):
        """The store with longer sections, and with other offsets: triples (who, name, offset)."""
        store = self.store
        for who in self.rows:
            mine = [growth for part, growth in zip(self.parts, growths) if part[0] == who]
            obj = self.program.object_of(who)
            mine = mine or [0] * len(obj.sections())
            store = with_object(store, who, longer(obj, mine, [spot[1:] for spot in spots if spot[0] == who]))
        return store

    def places(self, growths):
        return {(who, number): place for who, number, place, _ in self.images[growths].sections()}

    def moved(self, growths, part):
        return self.places(growths)[part] != self.places(tuple([0] * len(self.parts)))[part]

    def all_changes(self):
        """Programs of changes: each growth, alone and with each one spot elsewhere."""
        for growths in self.growths:
            yield linked(self.changed(growths), self.line)
            for who in self.rows:
                lengths = {number: size for one, number, _, size in self.images[growths].sections() if one == who}
                for name, worth in self.program.object_of(who).names().items():
                    if worth[0] != "common" and worth[1] is not None:
                        for offset in range(lengths[worth[1][0]] + 1):
                            yield linked(self.changed(growths, [(who, name, offset)]), self.line)


class TestMoves(unittest.TestCase):
    def test_what_moves(self):
        seen = {"moving": 0, "shared": 0, "unseen": 0}
        for seed in range(120):
            asked = Asked(seed)
            self.assertEqual(growing(asked.changes), asked.parts)
            sections = [(who, number) for who, number, _ in asked.program.sections()]
            outside = [part for part in sections if part[0] not in asked.rows]
            self.assertEqual(moving(asked.changes),
                             [part for part in sections if any(asked.moved(growths, part) for growths in asked.growths)])
            for part in sections:
                far = [growths for growths in asked.growths if asked.moved(growths, part)]
                wanted = [one for one in far if not any(is_below(other, one) and other != one for other in far)]
                self.assertEqual(least_growths(asked.changes, *part), sorted(wanted))
                seen["shared"] += len(wanted) > 1
            quiet = [growths for growths in asked.growths if not any(asked.moved(growths, part) for part in outside)]
            wanted = [one for one in quiet if not any(is_below(one, other) and other != one for other in quiet)]
            self.assertEqual(unseen(asked.changes), sorted(wanted))
            seen["moving"] += len(moving(asked.changes)) > 0
            seen["unseen"] += len(wanted) > 1
        self.assertGreater(min(seen.values()), 2, seen)

    def test_slack_is_shared(self):
        store = Store({"m": Object({}, [], [], [("a", "r", 1, [1, 2]), ("b", "r", 1, [3])]),
                       "n": Object({}, [], [], [("c", "r", 8, [4])])})
        changes = Changes(linked(store, ["m", "n"]), {("m", None): 5})
        self.assertEqual(growing(changes), [(("m", None), 0), (("m", None), 1)])
        self.assertEqual(moving(changes), [(("m", None), 1), (("n", None), 0)])
        self.assertEqual(unseen(changes), [(0, 5), (1, 4), (2, 3), (3, 2), (4, 1), (5, 0)])
        self.assertEqual(least_growths(changes, ("n", None), 0), [(1, 5), (2, 4), (3, 3), (4, 2), (5, 1)])
        self.assertEqual(least_growths(changes, ("m", None), 1), [(1, 0)])
        self.assertEqual(least_growths(changes, ("m", None), 0), [])

    def test_nobody_changes(self):
        changes = Changes(linked(example_91(), LINE), {})
        self.assertEqual((growing(changes), moving(changes), unseen(changes), filled_anew(changes)), ([], [], [()], []))
        self.assertEqual(least_growths(changes, ("end", None), 0), [])


class TestFilledAnew(unittest.TestCase):
    def test_among_all_changes(self):
        filled = {"outside": 0, "commons": 0}
        for seed in range(300):
            asked = Asked(seed)
            before = cells_outside(Image(asked.program), asked)
            anew_ones = set()
            for program in asked.all_changes():
                # who is taken, and all meanings, are as they were
                self.assertEqual(program.taken(), asked.program.taken())
                self.assertEqual(program.meanings(), asked.program.meanings())
                after = cells_outside(Image(program), asked)
                anew_ones |= {key for key in before if before[key] != after[key]}
            told = filled_anew(asked.changes)
            self.assertEqual(set(told), anew_ones)
            order = [(who, number) for who, number, _ in asked.program.sections()]
            self.assertEqual(told, sorted(told, key=lambda cell: (order.index(cell[:2]), cell[2])))
            filled["outside"] += len(told) > 0
            filled["commons"] += any(asked.program.meanings()[cell[0]][0] == "common" for who, number, index in told
                                     for cell in [asked.program.object_of(who).sections()[number][3][index]])
        self.assertGreater(min(filled.values()), 10, filled)

    def test_unseen_growths_change_no_other_cells(self):
        cells = 0
        for seed in range(400):
            asked = Asked(seed)
            told = filled_anew(asked.changes)
            for growths in unseen(asked.changes):
                old, new = Image(asked.program), asked.images[growths]
                places = {place + index: (who, number, index) for who, number, place, size in old.sections()
                          if who not in asked.rows for index in range(size)}
                for place in anew(old, new):
                    if place in places:
                        self.assertIn(places[place], told)
                        cells += 1
        self.assertGreater(cells, 10)

    def test_zeros_and_sections_without_cells(self):
        def told(body, growth):
            store = Store({"m": Object({}, ["f"], [], [("a", "r", 1, [("f", 0)])]),
                           "n": Object({"f": ("strong", (0, 0))}, [], [], [("c", "r", 1, body)])})
            return filled_anew(Changes(linked(store, ["m", "n"]), {("n", None): growth}))
        self.assertEqual(told([], "spots"), [])
        self.assertEqual(told([], 0), [])
        self.assertEqual(told(0, 1), [(("m", None), 0, 0)])
        self.assertEqual(told([], 1), [(("m", None), 0, 0)])
        self.assertEqual(told(1, "spots"), [(("m", None), 0, 0)])
        self.assertEqual(told([5], 0), [(("m", None), 0, 0)])

    def test_names_without_a_spot(self):
        store = Store({"m": Object({}, ["f", "h"], ["n"], [("a", "r", 1, [("f", 0), ("h", 0), ("n", 1)])]),
                       "n": Object({"f": ("strong", None)}, [], [], [("c", "r", 1, [1])]), "l": Library(["h"])})
        self.assertEqual(filled_anew(Changes(linked(store, ["m", "n", "l"]), {("n", None): 3})), [])


def cells_outside(image, asked):
    cells = image.cells()
    return {(who, number, index): cells[place + index] for who, number, place, size in image.sections()
            if who not in asked.rows for index in range(size)}


class TestFaces(unittest.TestCase):
    def test_faces(self):
        obj = Object({"b": ("weak", (0, 1)), "a": ("common", 3), "c": ("strong", None)}, ["e", "d"], ["f"],
                     [("t", "rx", 4, [1, ("a", 2)]), ("z", "rw", 1, 0), ("q", "r", 2, [])])
        self.assertEqual(call_alike(self, face_of, obj),
                         ((("a", ("common", 3)), ("b", ("weak",)), ("c", ("strong",))), ("d", "e"), ("f",),
                          (("t", "rx", 4, False), ("z", "rw", 1, True), ("q", "r", 2, False))))
        self.assertEqual(face_of(obj=Object({})), ((), (), (), ()))

    def test_changes_keep_the_face(self):
        for seed in range(20):
            asked = Asked(seed)
            for who in asked.rows:
                obj = asked.program.object_of(who)
                self.assertEqual(face_of(longer(obj, [1] * len(obj.sections()))), face_of(obj))


class TestExampleAndErrors(unittest.TestCase):
    def test_the_example(self):
        rows = {("lib", None): 3}
        changes = Changes(program=linked(example_91(), LINE), rows=rows)
        rows[("end", None)] = 4
        for _ in range(2):
            self.assertEqual(moving(changes=changes), [(("end", None), 0)])
            self.assertEqual(least_growths(changes=changes, who=["end", None], number=0), [(2,)])
            self.assertEqual(unseen(changes=changes), [(1,)])
            self.assertEqual(filled_anew(changes=changes), [(("main", None), 0, 1), (("end", None), 0, 1)])
            self.assertEqual(growing(changes=changes), [(("lib", None), 0)])
            for function in (moving, unseen, filled_anew, growing):
                spoil(function(changes))

    def test_bad_changes(self):
        program = linked(example_91(), LINE)
        for thing in any_objects():
            if not isinstance(thing, dict):
                self.assertEqual(raised(Changes, program, thing), ("BadChanges", thing))
            if not isinstance(thing, int) or isinstance(thing, bool) or thing < 0:
                self.assertEqual(raised(Changes, program, {("main", None): 1, ("lib", None): thing, ("no", None): 1}),
                                 ("BadChanges", ("lib", None)))
        for key in ("lib", ("lib",), ("lib", "lib"), ("no", None), None, 0, ("lib", None, None), (None, None)):
            self.assertEqual(raised(Changes, program, {("main", None): "spots", key: 1, ("end", None): -1}), ("BadChanges", key))

    def test_no_section(self):
        changes = Changes(linked(example_91(), LINE), {("lib", None): 3})
        for thing in any_objects():
            self.assertEqual(raised(least_growths, changes, thing, 0), ("NoSection", thing, 0))
            if thing != 0 or isinstance(thing, bool):
                self.assertEqual(raised(least_growths, changes, ("end", None), thing), ("NoSection", ("end", None), thing))
        self.assertEqual(raised(least_growths, changes, ("end", "end"), 0), ("NoSection", ("end", "end"), 0))
        self.assertEqual(raised(least_growths, changes, ("end", None), -1), ("NoSection", ("end", None), -1))

    def test_members(self):
        store = Store({"m": Object({}, ["f"], [], [("a", "r", 1, [("f", 0)])]),
                       "ar": Archive([("k", Object({"f": ("strong", (0, 0))}, [], [], [("c", "r", 1, [1])]))])})
        changes = Changes(linked(store, ["m", "ar"]), {("ar", "k"): "spots"})
        self.assertEqual(filled_anew(changes), [(("m", None), 0, 0)])
        self.assertEqual(least_growths(changes, ("ar", "k"), 0), [])


if __name__ == "__main__":
    unittest.main()
