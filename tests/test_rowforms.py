"""Promises 97 to 100 and their part of the example of 101: files as rows of bytes, there and back."""

import random
import unittest

from linklines.objects import Archive, Library, Object
from linklines.rowforms import file_row, next_bytes, read_row, shortest_end, unseen_swap
from linklines.stores import Store
from tests.tools import any_objects, call_alike, raised, spoil


def random_word(dice, hard):
    if hard:
        return "z" * dice.randint(0, 7) + dice.choice("zzyxab")
    return "".join(dice.choice("abz") for _ in range(dice.randint(1, 3)))


def random_words(dice, hard, most):
    return list(dict.fromkeys(random_word(dice, hard) for _ in range(dice.randint(0, most))))


def random_member(dice, hard):
    words = random_words(dice, hard, 6)
    kinds = {word: dice.choice(["wanted", "asked", "strong", "weak", "common"]) for word in words}
    sections = []
    for _ in range(dice.randint(0, 2)):
        cells = [dice.choice([0, -1, 63, 64, -64, 10 ** 6, (dice.choice(words), dice.randint(-200, 200)) if words else 3])
                 for _ in range(dice.choice([0, 1, 2, 3]))]
        sections.append((dice.choice([".text", "a", "_9"]), dice.choice(["r", "rw", "rx"]), dice.choice([1, 8, 64]),
                         dice.choice([cells, dice.choice([0, 1, 127, 128, 300])])))

    def spot():
        if not sections or dice.random() < 0.4:
            return None
        number = dice.randrange(len(sections))
        body = sections[number][3]
        return (number, dice.choice([0, body if isinstance(body, int) else len(body)]))

    told = {}
    for word, kind in kinds.items():
        if kind == "common":
            told[word] = (kind, dice.choice([1, 127, 128, 20000]))
        elif kind in ("strong", "weak"):
            told[word] = (kind, spot())
    return Object(told, [word for word in words if kinds[word] == "wanted"],
                  [word for word in words if kinds[word] == "asked"], sections)


def random_file(dice):
    hard = dice.random() < 0.5
    kind = dice.randint(0, 2)
    if kind == 0:
        return random_member(dice, hard)
    if kind == 1:
        return Archive([(word, random_member(dice, hard)) for word in random_words(dice, hard, 3)])
    words = random_words(dice, hard, 6)
    marks = {word: dice.choice(["t", "w", "a", "tw", "ta"]) for word in words}
    return Library([word for word in words if "t" in marks[word]], [word for word in words if "w" in marks[word]],
                   [word for word in words if "a" in marks[word]], random_words(dice, hard, 4),
                   dice.random() < 0.5, dice.random() < 0.5)


def plain_row(thing):
    """The row of a file, written straight after the document."""
    row = []

    def number(worth):
        while worth >= 128:
            row.append(128 + worth % 128)
            worth //= 128
        row.append(worth)

    def integer(worth):
        number(2 * worth if worth >= 0 else -2 * worth - 1)

    def word(text):
        number(len(text))
        row.extend(map(ord, text))

    def member(obj):
        kinds = {name: 0 for name in obj.wants()} | {name: 1 for name in obj.asks()}
        kinds |= {name: {"strong": 2, "weak": 3, "common": 4}[kind] for name, (kind, _) in obj.names().items()}
        number(len(kinds))
        for name in sorted(kinds):
            word(name)
            number(kinds[name])
        number(len(obj.sections()))
        for name, rights, align, body in obj.sections():
            word(name)
            number(["r", "rw", "rx"].index(rights))
            number([1, 2, 4, 8, 16, 32, 64].index(align))
            if isinstance(body, int):
                number(1)
                number(body)
            else:
                number(0)
                number(len(body))
                for cell in body:
                    number(int(isinstance(cell, tuple)))
                    if isinstance(cell, tuple):
                        number(sorted(kinds).index(cell[0]))
                    integer(cell[1] if isinstance(cell, tuple) else cell)
        for kind, worth in obj.names().values():
            if kind == "common":
                number(worth)
            else:
                number(int(worth is not None))
                for part in worth or ():
                    number(part)

    if isinstance(thing, Object):
        number(1)
        member(thing)
    elif isinstance(thing, Archive):
        number(2)
        number(len(thing.members()))
        for name, held in thing.members():
            word(name)
            member(held)
    else:
        number(3)
        number(thing.own_first() + 2 * thing.stays())
        told = sorted({*thing.tells(), *thing.wants(), *thing.asks()})
        number(len(told))
        for name in told:
            word(name)
            number((name in thing.tells()) + 2 * (name in thing.wants()) + 4 * (name in thing.asks()))
        number(len(thing.needs()))
        for name in thing.needs():
            word(name)
    return [*row, sum(row) % 256, sum((at + 1) * byte for at, byte in enumerate(row)) % 256]


class TestThereAndBack(unittest.TestCase):
    def test_rows(self):
        for seed in range(200):
            thing = random_file(random.Random(seed))
            row = file_row(thing)
            self.assertEqual(row, plain_row(thing))
            self.assertEqual(read_row(row), thing)
            self.assertIs(type(read_row(tuple(row))), type(thing))
            self.assertEqual(next_bytes(row), [])
            self.assertEqual(shortest_end(row), row)
            for many in {0, 1, len(row) // 2, len(row) - 1}:
                self.assertEqual(raised(read_row, row[:many]), ("BadByte", many))
                self.assertEqual(raised(unseen_swap, row[:many]), ("BadByte", many))
            for byte in (0, 255):
                for function in (read_row, next_bytes, shortest_end, unseen_swap):
                    self.assertEqual(raised(function, [*row, byte]), ("BadByte", len(row)))

    def test_numbers(self):
        def cells(*worths):
            return file_row(Object({}, [], [], [("a", "r", 1, list(worths))]))[9:-2]
        self.assertEqual(cells(0, 1, -1), [0, 0, 0, 2, 0, 1])
        self.assertEqual(cells(63, 64, -64, -65), [0, 126, 0, 128, 1, 0, 127, 0, 129, 1])
        self.assertEqual(cells(2 ** 20), [0, 128, 128, 128, 1])
        for worth in (0, 1, 10 ** 40, -10 ** 40, 2 ** 63, -2 ** 63, 8191, 8192, -8192, -8193):
            thing = Object({}, ["a"], [], [("a", "r", 1, [worth, ("a", worth)]), ("b", "r", 1, abs(worth))])
            self.assertEqual(read_row(file_row(thing)), thing)

    def test_no_sort_and_too_large(self):
        for thing in [*any_objects(), 3, "a", [1], Store({}), Object, ("ar", "ar")]:
            if not isinstance(thing, (Object, Archive, Library)):
                self.assertEqual(raised(file_row, thing), ("NoSort", thing))
        words = [one + other for one in "abcde" for other in "abcdefghi"]
        for many, error in ((40, None), (41, ("TooLarge",))):
            self.assertEqual(raised(file_row, Object({}, words[:many])), error)
            self.assertEqual(raised(file_row, Object({words[0]: ("strong", None)}, words[1:20], words[20:many])), error)
            self.assertEqual(raised(file_row, Object({}, [], [], [("a", "r", 1, 0)] * many)), error)
            self.assertEqual(raised(file_row, Archive([(word, Object({})) for word in words[:many]])), error)
            self.assertEqual(raised(file_row, Archive([("a", Object({}, words[:many]))])), error)
            self.assertEqual(raised(file_row, Library(words[:20], words[20:many])), error)
            self.assertEqual(raised(file_row, Library([], [], [], words[:many])), error)
        self.assertIsNone(raised(file_row, Library(words[:40], words[:20], words[20:40])))
        for many, error in ((400, None), (401, ("TooLarge",))):
            self.assertEqual(raised(file_row, Object({}, [], [], [("a", "r", 1, [0] * many)])), error)
        self.assertIsNone(raised(file_row, Object({}, [], [], [("a", "r", 1, 10 ** 9)])))

    def test_bad_bytes(self):
        for function in (read_row, next_bytes, shortest_end, unseen_swap):
            for thing in any_objects():
                if not isinstance(thing, (list, tuple)) or thing:
                    self.assertEqual(raised(function, thing), ("BadBytes", thing))
                if not isinstance(thing, int) or isinstance(thing, bool) or not 0 <= thing < 256:
                    self.assertEqual(raised(function, [9, thing]), ("BadBytes", [9, thing]))
            self.assertEqual(raised(function, [256]), ("BadBytes", [256]))

    def test_one_byte_otherwise(self):
        for seed in range(25):
            dice = random.Random(seed)
            row = file_row(random_file(dice))
            for place in range(len(row)):
                other = list(row)
                other[place] = (other[place] + dice.randint(1, 255)) % 256
                self.assertIsNotNone(raised(read_row, other))


class TestWhatCanCome(unittest.TestCase):
    def test_ends_hang_together(self):
        # the shortest end is that of the best byte that can come, and what can not come is wrong
        for seed in range(60):
            dice = random.Random(seed)
            row = file_row(random_file(dice))
            place = dice.randrange(len(row))
            begin = row[:place]
            told = next_bytes(begin)
            self.assertIn(row[place], told)
            self.assertEqual(told, sorted(set(told)))
            ends = [shortest_end([*begin, byte]) for byte in told]
            self.assertEqual(shortest_end(begin), min(ends, key=lambda end: (len(end), end)))
            self.assertLessEqual(len(shortest_end(begin)), len(row))
            for byte, end in list(zip(told, ends))[:40]:
                self.assertEqual(end[:place + 1], [*begin, byte])
                self.assertEqual(file_row(read_row(end)), end)
            for byte in dice.sample(range(256), 40):
                if byte not in told:
                    for function in (read_row, next_bytes, shortest_end):
                        self.assertEqual(raised(function, [*begin, byte, 1, 2]), ("BadByte", place))

    def test_words_that_leave_too_few(self):
        z = [122]
        self.assertEqual(next_bytes([1, 1]), [1, 2, 3, 4, 5, 6, 7, 8])
        # of two words the first can not be the last of all
        self.assertEqual(next_bytes([1, 2, 8] + z * 7), list(range(97, 122)))
        self.assertEqual(next_bytes([1, 1, 8] + z * 7), list(range(97, 123)))
        self.assertEqual(next_bytes([1, 27, 8] + z * 6), list(range(97, 122)))
        self.assertEqual(next_bytes([1, 26, 8] + z * 7), [97])
        # behind z longer words alone are left, behind zzzzzzzz none
        self.assertEqual(next_bytes([1, 2, 1, 122, 0]), [2, 3, 4, 5, 6, 7, 8])
        self.assertEqual(next_bytes([1, 2, 2, 122, 121, 0]), [2, 3, 4, 5, 6, 7, 8])
        self.assertEqual(next_bytes([1, 2, 2, 121, 121, 0]), [1, 2, 3, 4, 5, 6, 7, 8])
        self.assertEqual(next_bytes([1, 2, 7] + z * 7 + [0]), [8])
        self.assertEqual(next_bytes([3, 0, 2, 3, 97, 98, 99, 1, 2]), list(range(97, 123)))
        self.assertEqual(next_bytes([3, 0, 2, 3, 97, 98, 99, 1, 2, 97]), list(range(99, 123)))
        self.assertEqual(next_bytes([3, 0, 2, 3, 97, 98, 99, 1, 3, 97, 98]), list(range(100, 123)))
        self.assertEqual(next_bytes([3, 0, 2, 3, 97, 98, 99, 1, 4, 97, 98]), list(range(99, 123)))

    def test_lengths_of_which_all_words_stand(self):
        letters = [byte for sign in range(97, 123) for byte in (1, sign)]
        self.assertEqual(next_bytes([3, 0, 0, 27, *letters]), [2, 3, 4, 5, 6, 7, 8])
        self.assertEqual(next_bytes([3, 0, 0, 27, *letters[:-2]]), [1, 2, 3, 4, 5, 6, 7, 8])
        self.assertEqual(next_bytes([3, 0, 0, 27, *letters[:-2], 1]), [122])
        members = [byte for sign in range(97, 123) for byte in (1, sign, 0, 0)]
        self.assertEqual(next_bytes([2, 27, *members]), [2, 3, 4, 5, 6, 7, 8])
        end = shortest_end([2, 27, *members])
        self.assertEqual(end[2 + len(members):-2], [2, 97, 97, 0, 0])
        pairs = [byte for sign in range(97, 123) for byte in (2, 98, sign)]
        self.assertEqual(next_bytes([3, 0, 0, 27, *pairs, 2]), [97, *range(99, 123)])

    def test_numbers_that_would_be_too_great(self):
        head = [1, 0, 1, 1, 97, 0, 0]
        self.assertEqual(next_bytes([*head, 0]), [*range(0, 128), *range(128, 256)])
        self.assertEqual(next_bytes([*head, 0, 128 + 16]), [1, 2, 3])
        self.assertEqual(next_bytes([*head, 0, 128 + 17]), [1, 2])
        self.assertEqual(next_bytes([*head, 1, 128 + 17]), list(range(1, 256)))
        self.assertEqual(next_bytes([*head, 1]), list(range(256)))
        # offsets up to the end of a section
        name = [1, 1, 1, 97, 2, 1, 1, 97, 0, 0]
        self.assertEqual(next_bytes([*name, 1, 2, 1, 0]), [0, 1, 2])
        self.assertEqual(next_bytes([*name, 1, 128 + 2, 1, 1, 0]), [*range(0, 128), 128, 129, 130])
        self.assertEqual(next_bytes([*name, 1, 128 + 2, 1, 1, 0, 129]), [1])
        self.assertEqual(next_bytes([*name, 1, 127, 1, 0]), list(range(128)))
        # sizes are not nought
        self.assertEqual(next_bytes([1, 1, 1, 97, 4, 0]), list(range(1, 256)))
        self.assertEqual(shortest_end([1, 1, 1, 97, 4, 0, 128])[:8], [1, 1, 1, 97, 4, 0, 128, 1])

    def test_ones_where_there_is_none(self):
        self.assertEqual(next_bytes([1, 0, 1, 1, 97, 0, 0, 0, 1]), [0])
        self.assertEqual(next_bytes([1, 1, 1, 97, 0, 1, 1, 97, 0, 0, 0, 1]), [0, 1])
        self.assertEqual(next_bytes([1, 1, 1, 97, 0, 1, 1, 97, 0, 0, 0, 1, 1]), [0])
        self.assertEqual(next_bytes([1, 1, 1, 97, 2, 0]), [0])
        self.assertEqual(next_bytes([1, 1, 1, 97, 2, 1, 1, 97, 0, 0, 0, 0]), [0, 1])
        self.assertEqual(next_bytes([1, 1, 1, 97, 2, 1, 1, 97, 0, 0, 0, 0, 1]), [0])

    def test_choices(self):
        self.assertEqual(next_bytes([]), [1, 2, 3])
        self.assertEqual(next_bytes([1]), list(range(41)))
        self.assertEqual(next_bytes([2]), list(range(41)))
        self.assertEqual(next_bytes([3]), [0, 1, 2, 3])
        self.assertEqual(next_bytes([3, 0]), list(range(41)))
        self.assertEqual(next_bytes([3, 0, 0]), list(range(41)))
        self.assertEqual(next_bytes([3, 0, 1, 1, 97]), [1, 2, 3, 4, 5])
        self.assertEqual(next_bytes([1, 1, 1, 97]), [0, 1, 2, 3, 4])
        self.assertEqual(next_bytes([1, 0]), list(range(41)))
        self.assertEqual(next_bytes([1, 0, 1]), list(range(1, 13)))
        self.assertEqual(next_bytes([1, 0, 1, 1]), sorted(map(ord, "abcdefghijklmnopqrstuvwxyz0123456789._")))
        self.assertEqual(next_bytes([1, 0, 1, 1, 97]), [0, 1, 2])
        self.assertEqual(next_bytes([1, 0, 1, 1, 97, 0]), list(range(7)))
        self.assertEqual(next_bytes([1, 0, 1, 1, 97, 0, 0]), [0, 1])
        self.assertEqual(next_bytes([1, 0, 0]), [1])
        self.assertEqual(next_bytes([1, 0, 0, 1]), [1])

    def test_shortest_ends(self):
        self.assertEqual(shortest_end([]), [2, 0, 2, 2])
        self.assertEqual(shortest_end([1]), [1, 0, 0, 1, 1])
        self.assertEqual(shortest_end([3]), [3, 0, 0, 0, 3, 3])
        self.assertEqual(shortest_end([1, 1, 8, 122])[2:11], [8, 122, *[97] * 7])
        # y, z, then za: fewer signs than ya, yb
        self.assertEqual(shortest_end([1, 3, 1, 121, 0])[2:-3], [1, 121, 0, 1, 122, 0, 2, 122, 97, 0])
        self.assertEqual(shortest_end([1, 2, 2, 97, 98, 0])[2:-3], [2, 97, 98, 0, 1, 98, 0])
        self.assertEqual(shortest_end([1, 2, 1, 122, 0])[2:-3], [1, 122, 0, 2, 122, 97, 0])
        self.assertEqual(len(read_row(shortest_end([1, 40])).wants()), 40)
        # behind z there are 26 words of two signs: of 30 three come ahead of it, as words of three would be longer
        end = read_row(shortest_end([1, 31, 1, 121, 0])).wants()
        self.assertEqual(end[:6], ["y", "ya", "yb", "yc", "z", "za"])
        self.assertEqual(end[-1], "zz")
        self.assertEqual(read_row(shortest_end([1, 28, 1, 121, 0])).wants()[:3], ["y", "z", "za"])
        self.assertEqual(read_row(shortest_end([1, 29, 1, 121, 0])).wants()[:3], ["y", "ya", "z"])
        told = read_row(shortest_end([3, 0, 31, 1, 121, 1])).tells()
        self.assertEqual(told[:6], ["y", "ya", "yb", "yc", "z", "za"])
        told = call_alike(self, shortest_end, [1, 28])
        self.assertEqual(read_row(told).wants()[-3:], ["z", "za", "zb"])


class TestSums(unittest.TestCase):
    def test_exchanges(self):
        seen = {True: 0, False: 0}
        for seed in range(60):
            row = file_row(random_file(random.Random(seed)))
            many = len(row) - 2
            found = [(i, j) for i in range(many) for j in range(i + 1, many)
                     if row[i] != row[j] and (row[i] - row[j]) * (j - i) % 256 == 0]
            self.assertEqual(unseen_swap(row), found[0] if found else None)
            seen[bool(found)] += 1
        self.assertGreater(min(seen.values()), 5, seen)
        self.assertIsNone(unseen_swap(row=[2, 0, 2, 2]))

    def test_what_is_exchanged_is_seen(self):
        for seed in range(15):
            row = file_row(random_file(random.Random(seed)))
            for i in range(len(row) - 2):
                for j in range(i + 1, len(row) - 2):
                    if row[i] != row[j] and (row[i] - row[j]) * (j - i) % 256:
                        other = list(row)
                        other[i], other[j] = row[j], row[i]
                        self.assertIsNotNone(raised(read_row, other))

    def test_the_example(self):
        self.assertEqual(call_alike(self, file_row, Object({}, ["a"])), [1, 1, 1, 97, 0, 0, 100, 138])
        self.assertEqual(call_alike(self, next_bytes, [1, 1]), [1, 2, 3, 4, 5, 6, 7, 8])
        self.assertEqual(read_row([1, 1, 1, 97, 0, 0, 100, 138]), Object({}, ["a"]))
        for told in (next_bytes([1, 1]), shortest_end([1, 1]), file_row(Object({}))):
            spoil(told)
        self.assertEqual(next_bytes(row=(1, 1)), [1, 2, 3, 4, 5, 6, 7, 8])
        self.assertEqual(file_row(thing=Object({})), [1, 0, 0, 1, 1])
        self.assertEqual(read_row(row=[1, 0, 0, 1, 1]), Object({}))
        self.assertEqual(shortest_end(row=[1]), [1, 0, 0, 1, 1])

    def test_at_the_limits(self):
        words = [one + other for one in "abcde" for other in "abcdefgh"]
        full = Object({word: ("strong", (0, 400)) for word in words}, [], [],
                      [(".text", "rx", 4, [(words[at % 40], at) for at in range(400)])] * 40)
        archive = Archive([(word, full) for word in words[:3]])
        self.assertEqual(read_row(file_row(archive)), archive)
        row = file_row(Object({word: ("weak", None) for word in words}, [], [], [("a", "r", 1, [at * 7 for at in range(400)])] * 2))
        self.assertGreater(len(row), 1800)
        self.assertEqual(read_row(row).sections()[1][3][3], 21)
        self.assertIsNotNone(unseen_swap(row))


if __name__ == "__main__":
    unittest.main()
