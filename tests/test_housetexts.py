"""Promise 109: houses as texts, there and back."""

import random
import unittest

from linklines.holes import Hole
from linklines.houses import House
from linklines.housetexts import read_house, write_house
from linklines.objects import Archive, Library, Object
from tests.house_tools import random_house
from tests.tools import any_objects, obj, raised

TEXT = """file ar 2 1 1 112 1 1 97 2 0 0 215 123
group g ar ar
hole h none a=no+strong b=weak
hole ha any
line l m g ar
file m 1 1 1 98 2 0 0 103 16
line none
"""


def house_of_text():
    house = House()
    house.put("ar", "file", Archive([("p", obj("a"))]))
    house.put("g", "group", ["ar", "ar"])
    house.put("m", "file", obj("b"))
    house.put("h", "hole", Hole({"b": ["weak"], "a": ["strong", "no"]}, False))
    house.put("ha", "hole", Hole({}))
    house.put("l", "line", ["m", "g", "ar"])
    house.put("none", "line", [])
    return house


def fitted(text):
    """The text with sums that fit the bytes of its files."""
    lines = []
    for line in text.splitlines():
        words = line.split(" ")
        if words[0] == "file":
            row = [int(word) for word in words[2:-2]]
            sums = [sum(row) % 256, sum((at + 1) * byte for at, byte in enumerate(row)) % 256]
            words[-2:] = [str(number) for number in sums]
        lines.append(" ".join(words))
    return "\n".join(lines) + "\n"


GOOD = fitted(TEXT)


class TestTexts(unittest.TestCase):
    def test_what_is_written(self):
        self.assertEqual(write_house(house_of_text()), GOOD)
        self.assertEqual(write_house(house=House()), "")
        big = House()
        big.put("big", "file", Object({}, [], [], [("a", "r", 1, [0] * 401)]))
        self.assertEqual(raised(write_house, big), ("TooLarge",))

    def test_there_and_back(self):
        self.assertEqual(read_house(GOOD), house_of_text())
        self.assertEqual(read_house(text=""), House())
        for seed in range(60):
            house = random_house(seed, "abc")
            text = write_house(house)
            other = read_house(text)
            self.assertEqual(other, house)
            self.assertEqual(write_house(other), text)

    def test_no_deed_stands_and_nothing_was_made(self):
        house = house_of_text()
        house.put("l", "line", ["m"])
        house.told("l")
        other = read_house(write_house(house))
        self.assertEqual(len(other), 0)
        self.assertEqual(raised(other.undo), ("Nothing",))
        self.assertEqual(other.made(), [])
        other.told("l")
        self.assertEqual(other.made(), [("outcome", "l")])
        # writing makes nothing
        write_house(other)
        self.assertEqual(other.made(), [])
        other.bytes_of("m")
        self.assertEqual(other.made(), [("row", "m")])

    def test_all_kinds_of_files(self):
        house = House()
        house.put("a", "file", Library(["x"], ["y"], [], ["z"], True, True))
        house.put("b", "file", Archive([]))
        house.put("c", "file", Object({"n": ("common", 300)}, [], [], [(".data_1", "rw", 64, [("n", -70), 128])]))
        house.put("d", "hole", Hole({"a": ["no", "wanted", "weak", "common", "strong"]}))
        self.assertEqual(read_house(write_house(house)), house)
        self.assertIn("hole d any a=no+wanted+weak+common+strong\n", write_house(house))


class TestBadTexts(unittest.TestCase):
    def assert_bad(self, text, index):
        self.assertEqual(raised(read_house, text), ("BadText", index), text)

    def test_no_strings(self):
        for thing in any_objects():
            if thing != "":
                self.assert_bad(thing, 0)

    def test_forms(self):
        for line in ("", " ", "file", "file x", "file x ", "line", "group g", "hole h", "lines l", "line L", "line l ", " line l",
                     "line l  a", "line l a ", "line l A", "line l\ta", "line l a\r", "group g A", "group g a A", "group g ",
                     "hole h all", "hole h any ", "hole h any a", "hole h any a=", "hole h any a=no+", "hole h any a=no+no",
                     "hole h any a=strong+no", "hole h any b=no a=no", "hole h any a=no a=no", "hole h any a=none", "hole h any =no",
                     "hole h any A=no", "hole h  any", "hole h any  a=no", "hole h any a=no=no", "hole aaaaaaaaa any",
                     "file x 1 0 0 1", "file x 1 0 0 1 1 0", "file x 1 0 0 1 2", "file x 01 0 0 1 1", "file x 1 00 0 1 1",
                     "file x 1 0 0 +1 1", "file x 1 0 0 1 1 ", "file x 1 0 0 257 1", "file x 256 0 0 1 1", "file x a", "file x -1",
                     "file x 1 0 0 1  1", "File x 1 0 0 1 1"):
            self.assert_bad("line a\n" + line + "\nline zz\n", 1)
            self.assert_bad(line + "\nline zz\n", 0)
        for text in ("file x 1 0 0 1 1\n", "line x\n", "hole x none\n"):
            self.assertIsNone(raised(read_house, text))

    def test_names_ascend(self):
        self.assert_bad("line b\nline a\nline c\n", 1)
        self.assert_bad("line b\nline b\n", 1)
        self.assert_bad("line a\nline b\nline aa\n", 2)
        self.assertIsNone(raised(read_house, "line a\nline aa\nline b\n"))

    def test_line_feeds(self):
        self.assert_bad("line a", 0)
        self.assert_bad("line a\nline b", 1)
        self.assert_bad("\n", 0)
        self.assert_bad("line a\n\n", 1)
        self.assert_bad("line a\n\nline b", 1)
        self.assert_bad("line a\n ", 1)
        self.assert_bad(GOOD[:-1], 6)
        self.assert_bad(GOOD + "x", 7)

    def test_what_lacks_or_cannot_stand(self):
        self.assert_bad("line a x\n", 0)
        self.assert_bad("line a\nline b a\n", 1)
        self.assert_bad("line a a\n", 0)
        self.assert_bad("group a a\n", 0)
        self.assert_bad("group a b\nfile b 1 0 0 1 1\n", 0)
        self.assert_bad("hole a any\nline b a c\nline d a\n", 1)
        self.assertIsNone(raised(read_house, "group a b\nfile b 2 0 2 2\nline c a b d\nhole d any\n"))
        # forms go ahead of these, wherever they are
        self.assert_bad("line a x\nline b\nline c C\n", 2)
        self.assert_bad("line a x\nline b", 1)

    def test_every_text_that_is_read_is_written_so(self):
        read = 0
        for seed in range(400):
            dice = random.Random(seed)
            text = list(GOOD)
            for _ in range(dice.randint(1, 2)):
                at = dice.randrange(len(text))
                text[at] = dice.choice([" ", "\n", "a", "1", "", text[at], "+", "="])
            text = "".join(text)
            if raised(read_house, text) is None:
                self.assertEqual(write_house(read_house(text)), text)
                read += 1
        self.assertGreater(read, 5)


if __name__ == "__main__":
    unittest.main()
