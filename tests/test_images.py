"""Promises 85 and 88 (anew) and their part of the example of 91: images of programs."""

import unittest

from linklines.images import Image, anew
from linklines.objects import Library, Object
from linklines.programs import linked
from linklines.stores import Store
from tests.image_tools import example_91, length, random_parted_store
from tests.tools import any_objects, raised, spoil


def plain_image(program):
    """The tuples of the sections, the places of the names, and the cells."""
    sections, end = [], 0
    for who, number, (_, _, align, body) in program.sections():
        while end % align:
            end += 1
        sections.append((who, number, end, length(body)))
        end += length(body)
    places = {}
    for name, size in program.commons().items():
        places[name] = end
        end += size
    for name, (kind, who) in program.meanings().items():
        if kind in ("strong", "weak"):
            spot = program.object_of(who).names()[name][1]
            at = [place for one, number, place, _ in sections if spot and (one, number) == (who, spot[0])]
            places[name] = at[0] + spot[1] if spot else 0
        elif kind != "common":
            places[name] = 0 if kind == "nothing" else None
    cells = [0] * end
    for (_, _, (_, _, _, body)), (_, _, place, _) in zip(program.sections(), sections):
        for at, cell in enumerate([] if isinstance(body, int) else body):
            if isinstance(cell, tuple):
                cell = cell if places[cell[0]] is None else places[cell[0]] + cell[1]
            cells[place + at] = cell
    return sections, places, cells


class TestImages(unittest.TestCase):
    def test_against_a_plain_one(self):
        held = {"common": 0, "library": 0, "zeros": 0, "gap": 0}
        for seed in range(150):
            program = linked(*random_parted_store(seed))
            image = Image(program)
            sections, places, cells = plain_image(program)
            self.assertEqual(image.sections(), sections)
            self.assertEqual(image.cells(), cells)
            for name in program.meanings():
                self.assertEqual(image.place(name), places[name])
            held["common"] += len(program.commons()) > 0
            held["library"] += any(isinstance(cell, tuple) for cell in cells)
            held["zeros"] += any(isinstance(section[3], int) for _, _, section in program.sections())
            held["gap"] += any(a[2] + a[3] < b[2] for a, b in zip(sections, sections[1:]))
        self.assertGreater(min(held.values()), 20, held)

    def test_what_is_told_is_new(self):
        image = Image(program=linked(example_91(), ["main", "lib", "end"]))
        for told in (image.cells, image.sections):
            spoil(told())
        self.assertEqual(image, Image(linked(example_91(), ("main", "lib", "end"))))
        empty = Image(linked(Store({"m": Object({})}), ["m"]))
        self.assertEqual(empty.cells(), [])
        self.assertFalse(empty == Image(linked(Store({}), [])))
        for other in [Image(linked(example_91(), ["lib", "main", "end"])), Image(linked(Store({}), [])), *any_objects()]:
            self.assertFalse(image == other)

    def test_equal_programs_with_other_cells(self):
        # programs are equal only if their objects are: so images with other cells are of other programs
        store = Store({"m": Object({"m": ("strong", (0, 0))}, [], [], [("a", "r", 1, [1, ("m", 0)])])})
        other = Store({"m": Object({"m": ("strong", (0, 1))}, [], [], [("a", "r", 1, [1, ("m", 0)])])})
        self.assertFalse(Image(linked(store, ["m"])) == Image(linked(other, ["m"])))
        self.assertEqual(anew(Image(linked(store, ["m"])), Image(linked(other, ["m"]))), [1])

    def test_commons_aligns_and_nothing(self):
        store = Store({"m": Object({"c": ("common", 2), "b": ("common", 3), "w": ("weak", None)}, ["h"], ["n"],
                                   [("a", "r", 1, [("b", 1)]), ("z", "rw", 8, 0), ("t", "r", 2, [("h", 4), ("n", 5), ("w", 6)])]),
                       "l": Library(["h"])})
        image = Image(linked(store, ["m", "l"]))
        self.assertEqual(image.sections(), [(("m", None), 0, 0, 1), (("m", None), 1, 8, 0), (("m", None), 2, 8, 3)])
        self.assertEqual(image.cells(), [12, 0, 0, 0, 0, 0, 0, 0, ("h", 4), 5, 6, 0, 0, 0, 0, 0])
        self.assertEqual([image.place(name) for name in ("b", "c", "h", "n", "w")], [11, 14, None, 0, 0])
        self.assertEqual(Image(linked(Store({}), [])).cells(), [])
        self.assertEqual(Image(linked(Store({"m": Object({"c": ("common", 2)})}), ["m"])).cells(), [0, 0])

    def test_no_name(self):
        image = Image(linked(example_91(), ["main", "lib", "end"]))
        for thing in [*any_objects(), "x", "text", ("main", None)]:
            self.assertEqual(raised(image.place, thing), ("NoName", thing))
        self.assertEqual(image.place(name="f"), 5)

    def test_anew(self):
        images = [Image(linked(*random_parted_store(seed))) for seed in range(30)]
        for one in images[:10]:
            for other in images:
                cells, further = one.cells(), other.cells()
                wanted = [at for at in range(max(len(cells), len(further)))
                          if cells[at:at + 1] != further[at:at + 1]]
                self.assertEqual(anew(one, other), wanted)
        self.assertEqual(anew(old=images[0], new=images[0]), [])

    def test_the_example(self):
        image = Image(linked(example_91(), ["main", "lib", "end"]))
        self.assertEqual(image.cells(), [1, 5, 0, 0, 7, 8, 9, 0, 0, 10])


if __name__ == "__main__":
    unittest.main()
