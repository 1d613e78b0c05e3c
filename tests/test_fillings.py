"""Promises 102, 105, 106 and the example of 111: holes, all fillings of lines, which holes decide them."""

import itertools
import random
import unittest

from linklines.fillings import few_words
from linklines.holes import Hole, fills
from linklines.houses import House
from linklines.objects import Archive, Library, Object
from tests.house_tools import (SORTS, example_111, files_of, made_with, plain_ends, plain_words, random_hole, random_house)
from tests.tools import any_objects, obj, raised, random_object, spoil


class TestHoles(unittest.TestCase):
    def test_what_is_told(self):
        sorts = {"b": ["strong", "no"], "a": ["weak"]}
        hole = Hole(sorts)
        sorts["b"].append("weak")
        sorts["c"] = ["no"]
        self.assertEqual(list(hole.sorts().items()), [("a", ("weak",)), ("b", ("no", "strong"))])
        spoil(hole.sorts())
        self.assertIs(hole.others(), True)
        self.assertEqual(hole, Hole(sorts={"a": ("weak",), "b": ("no", "strong")}, others=True))
        self.assertEqual(Hole({"a": SORTS[::-1]}).sorts(), {"a": ("no", "wanted", "weak", "common", "strong")})
        for other in [Hole({"a": ["weak"], "b": ["strong", "no"]}, False), Hole({"a": ["weak"]}), Hole({}), *any_objects()]:
            self.assertFalse(hole == other)

    def test_what_fills(self):
        seen = {True: 0, False: 0}
        for seed in range(400):
            dice = random.Random(seed)
            hole, made = random_hole(dice, ["a", "b", "c"]), random_object(dice, ["a", "b", "c"])
            sorts = {word: "no" for word in "abc"}
            sorts.update({word: "wanted" for word in made.wants()})
            sorts.update({word: definition[0] for word, definition in made.names().items()})
            wanted = all(sort in hole.sorts().get(word, SORTS if hole.others() else ["no"]) for word, sort in sorts.items())
            self.assertIs(fills(hole, made), wanted)
            seen[wanted] += 1
        self.assertGreater(min(seen.values()), 60)
        for thing in any_objects():
            self.assertIs(fills(Hole({}), thing), isinstance(thing, Object))
        self.assertIs(fills(hole=Hole({"a": ["no"]}), thing=obj("b", "c", "a")), True)
        self.assertIs(fills(Hole({"a": ["strong"]}), obj("b")), False)
        self.assertIs(fills(Hole({"a": ["no"]}, False), obj("", "", "b")), True)
        self.assertIs(fills(Hole({"a": ["no", "wanted"]}, False), obj("", "b")), False)

    def test_errors(self):
        for thing in any_objects():
            if not isinstance(thing, dict):
                self.assertEqual(raised(Hole, thing, None), ("BadHole", None))
            self.assertEqual(raised(Hole, {"b": ["no"], "a": thing, "c": None}, None), ("BadHole", "a"))
            self.assertEqual(raised(Hole, {"b": ["no"], "a": ["no", thing]}, None), ("BadHole", "a"))
            if not isinstance(thing, bool):
                self.assertEqual(raised(Hole, {"b": ["no"]}, thing), ("BadMark", thing))
        for key in ("A", "", None, 1, ("a",), "a" * 9):
            self.assertEqual(raised(Hole, {"b": ["no"], key: ["no"], "a": None}, None), ("BadHole", key))
        for thing in ([], ["no", "no"], ["asked"], "no", ["No"]):
            self.assertEqual(raised(Hole, {"b": thing}), ("BadHole", "b"))


class TestFillings(unittest.TestCase):
    def test_few_words(self):
        for seed in range(60):
            house = random_house(seed, "abc")
            line = house.held("l")
            self.assertEqual(few_words(files_of(house, line)), plain_words(house, line))
        library = Library(["a"], ["c"], ["d"])
        self.assertEqual(few_words({"l": library}), ["a", "b", "c", "d"])
        letters = obj("abcdefgh"), obj("ijklmnopq"), obj("rstuvwxyz")
        self.assertEqual(few_words({str(at): held for at, held in enumerate(letters)})[:2], ["a", "aa"])

    def test_verdicts_and_meanings(self):
        seen = {}
        for seed in range(40):
            house = random_house(seed)
            line = house.held("l")
            ends = plain_ends(house, line)
            firsts = {}
            for filling, end in ends:
                firsts.setdefault(end[0], filling)
            told = house.verdicts("l")
            self.assertEqual(list(told.items()), sorted(firsts.items()))
            for filling in told.values():
                self.assertEqual(list(filling), sorted(filling))
            objects = [house.held(name) for name in line if isinstance(house.held(name), Object)]
            for word in ("a", "b", "c"):
                if not any(word in held.wants() for held in objects):
                    self.assertEqual(raised(house.meanings_of, "l", word), ("NotWanted", word))
                    continue
                meanings = {}
                for filling, end in ends:
                    if end[0] == "links":
                        meanings.setdefault(dict(end[1])[word], filling)
                self.assertEqual(house.meanings_of("l", word), [(meaning, filling) for meaning, filling in meanings.items()])
                seen["meanings"] = seen.get("meanings", 0) + (len(meanings) > 1)
            seen[len(told)] = seen.get(len(told), 0) + 1
        self.assertGreater(min(seen["meanings"], seen[1], seen[2], seen[3]), 4, seen)

    def test_few_do(self):
        # objects with further words, asked ones, other sizes bring nothing that was not there
        for seed in range(25):
            dice = random.Random(seed)
            house = random_house(seed)
            verdicts = house.verdicts("l")
            holes = [name for name in set(house.held("l")) if isinstance(house.held(name), Hole)]
            for _ in range(4):
                other = house.copy()
                for name in holes:
                    made = next((made for made in (random_object(dice, list("abcdefg")) for _ in range(60))
                                 if fills(house.held(name), made)), None)
                    if made is not None:
                        other.put(name, "file", made)
                self.assertLessEqual(set(other.verdicts("l")), set(verdicts))
            for verdict, filling in verdicts.items():
                other = house.copy()
                for name, face in filling.items():
                    self.assertIs(fills(house.held(name), made_with(face)), True)
                    other.put(name, "file", made_with(face))
                self.assertEqual(list(other.verdicts("l")), [verdict])

    def test_a_hole_twice_in_a_line(self):
        house = example_111()
        house.put("l", "line", ["h", "main", "h"])
        self.assertEqual(list(house.verdicts("l")), ["links", "missing", "twice"])
        # alone it is told once: never twice
        house.put("h", "hole", Hole({"a": ["strong"]}, False))
        self.assertEqual(house.verdicts("l"), {"links": {"h": (("a", "strong"),)}})

    def test_holes_let_members_come(self):
        house = House()
        house.put("ar", "file", Archive([("p", obj("a", "b"))]))
        house.put("h", "hole", Hole({"a": ["no", "wanted"]}, False))
        house.put("l", "line", ["h", "ar"])
        self.assertEqual(house.verdicts("l"), {"links": {"h": ()}, "missing": {"h": (("a", "wanted"),)}})
        house.put("lib", "file", Library(["a"]))
        house.put("l", "line", ["lib", "h", "ar"])
        self.assertEqual(house.verdicts("l"), {"links": {"h": ()}})
        house.put("g", "group", ["ar"])
        house.put("l", "line", ["h", "g"])
        self.assertEqual(list(house.verdicts("l")), ["links", "missing"])

    def test_the_example(self):
        house = example_111()
        told = house.verdicts("l")
        self.assertEqual(told, {"links": {"h": (("a", "common"),)}, "missing": {"h": ()}, "twice": {"h": (("main", "strong"),)}})
        spoil(told)
        spoil(told["links"])
        self.assertEqual(house.verdicts(name="l")["links"], {"h": (("a", "common"),)})
        self.assertEqual(house.deciders("l"), [("h",)])
        house.put("h", "hole", Hole({"a": ["strong"], "main": ["no", "weak"]}, False))
        self.assertEqual(house.verdicts("l"), {"links": {"h": (("a", "strong"),)}})
        self.assertEqual(house.deciders("l"), [()])
        self.assertEqual(house.meanings_of(name="l", word="a"), [(("strong", ("h", None)), {"h": (("a", "strong"),)})])

    def test_lines_without_holes(self):
        house = example_111()
        house.put("h", "file", obj("a"))
        self.assertEqual(house.verdicts("l"), {"links": {}})
        self.assertEqual(house.meanings_of("l", "a"), [(("strong", ("h", None)), {})])
        self.assertEqual((house.deciders("l"), house.leaving_open("l")), ([()], []))
        house.put("l", "line", [])
        self.assertEqual(house.verdicts("l"), {"links": {}})

    def test_errors(self):
        house = example_111()
        for function in (house.verdicts, house.deciders, house.leaving_open):
            for thing in [*any_objects(), "x"]:
                self.assertEqual(raised(function, thing), ("NoName", thing))
            for name in ("h", "main"):
                self.assertEqual(raised(function, name), ("NotOf", name))
        for thing in [*any_objects(), "x", "main"]:
            self.assertEqual(raised(house.meanings_of, thing, None), ("NotOf" if thing == "main" else "NoName", thing))
            self.assertEqual(raised(house.meanings_of, "l", thing), ("NotWanted", thing))
        # what a member or a library wants is no want of an object of the line
        house.put("ar", "file", Archive([("p", obj("a", "b"))]))
        house.put("lib", "file", Library([], ["c"]))
        house.put("l", "line", ["main", "ar", "lib", "h"])
        for word in ("b", "c"):
            self.assertEqual(raised(house.meanings_of, "l", word), ("NotWanted", word))


class TestDeciders(unittest.TestCase):
    def test_all_lots(self):
        seen = {}
        for seed in range(30):
            house = random_house(seed, "ab", 3)
            line = house.held("l")
            holes = sorted({name for name in line if isinstance(house.held(name), Hole)})
            ends = plain_ends(house, line)
            lots = [lot for many in range(len(holes) + 1) for lot in itertools.combinations(holes, many)]
            deciding = []
            for lot in lots:
                told = {}
                for filling, end in ends:
                    told.setdefault(tuple(filling[hole] for hole in lot), set()).add(end[0])
                if all(len(verdicts) == 1 for verdicts in told.values()):
                    deciding.append(lot)
            least = [lot for lot in deciding if not any(set(other) < set(lot) for other in deciding)]
            open_ones = [lot for lot in lots if lot not in deciding]
            greatest = [lot for lot in open_ones if not any(set(other) > set(lot) for other in open_ones)]
            self.assertEqual(house.deciders("l"), least)
            self.assertEqual(house.leaving_open("l"), greatest)
            self.assertIs(least == [()] and greatest == [], len(house.verdicts("l")) == 1)
            key = (len(holes), len(least), len(greatest))
            seen[key] = seen.get(key, 0) + 1
        self.assertGreater(len(seen), 5, seen)

    def test_two_that_decide_together(self):
        house = House()
        house.put("m", "file", obj("m", "ab"))
        for name, word in (("ha", "a"), ("hb", "b")):
            house.put(name, "hole", Hole({word: ["no", "strong"]}, False))
        house.put("l", "line", ["m", "ha", "hb"])
        self.assertEqual(house.deciders(name="l"), [("ha", "hb")])
        self.assertEqual(house.leaving_open(name="l"), [("ha",), ("hb",)])
        house.put("hb", "hole", Hole({"b": ["strong", "weak"]}, False))
        self.assertEqual(house.deciders("l"), [("ha",)])
        self.assertEqual(house.leaving_open("l"), [("hb",)])

    def test_at_the_limits(self):
        house = House()
        house.put("ar", "file", Archive([("m" + word, obj(word, "" if word == "a" else "a")) for word in "abcdef"]))
        house.put("m", "file", obj("m", "a"))
        house.put("ha", "hole", Hole({word: SORTS for word in "abcde"}, False))
        house.put("hb", "hole", Hole({"x": ["no", "strong", "weak"]}, False))
        house.put("hc", "hole", Hole({"b": ["no", "strong"]}, False))
        house.put("l", "line", ["m", "ha", "ar", "hb", "ar", "hc", "ar", "ha", "ar", "m", "m", "m"])
        self.assertEqual(list(house.verdicts("l")), ["links", "twice"])
        self.assertEqual(len(house.meanings_of("l", "a")), 4)
        self.assertEqual(house.deciders("l"), [("ha", "hc")])


if __name__ == "__main__":
    unittest.main()
