"""Promises 103, 104, 107, 108 and 110: houses, their lines, what is made again, mends, deeds taken back."""

import itertools
import random
import unittest

from linklines.errors import LinkError
from linklines.holes import Hole
from linklines.houses import House
from linklines.objects import Archive, Library, Object
from linklines.programs import linked
from linklines.rowforms import file_row
from linklines.stores import Store
from tests.tools import any_objects, obj, plain_outcome, raised, random_archive, random_library, random_object, spoil

ARCHIVE = Archive([("p", obj("a", "b"))])


def example():
    house = House()
    house.put("m", "file", obj("m", "a"))
    house.put("ar", "file", ARCHIVE)
    house.put("lib", "file", Library(["b"]))
    house.put("h", "hole", Hole({"c": ["strong"]}))
    house.put("g", "group", ["ar", "ar"])
    house.put("l", "line", ["m", "g", "lib"])
    house.put("lh", "line", ["m", "h", "h"])
    house.put("none", "line", [])
    return house


def kept(house):
    return {name: (kind, house.held(name)) for name, kind in house.names().items()}


class TestKeeping(unittest.TestCase):
    def test_what_is_kept(self):
        house = example()
        words = ["ar"]
        house.put("x", "group", words)
        words.append("m")
        self.assertEqual(list(house.names().items()), [("ar", "file"), ("g", "group"), ("h", "hole"), ("l", "line"),
                                                       ("lh", "line"), ("lib", "file"), ("m", "file"), ("none", "line"),
                                                       ("x", "group")])
        self.assertEqual(house.held("x"), ("ar",))
        self.assertEqual(house.held(name="l"), ("m", "g", "lib"))
        self.assertEqual(house.held("none"), ())
        self.assertEqual(house.held("h"), Hole({"c": ["strong"]}))
        self.assertIs(house.held("ar"), ARCHIVE)
        spoil(house.names())
        self.assertEqual(house.store(), Store({"m": obj("m", "a"), "ar": ARCHIVE, "lib": Library(["b"]),
                                               "g": ["ar", "ar"], "x": ["ar"]}))
        self.assertEqual(House().names(), {})
        self.assertEqual(House().store(), Store({}))
        self.assertIsNone(house.put(name="x", kind="line", thing=("x",)[:0]))
        self.assertIsNone(house.drop(name="x"))
        self.assertNotIn("x", house.names())

    def test_equal_ones(self):
        house = example()
        other = House()
        for name, (kind, thing) in reversed(kept(house).items()):
            if kind not in ("group", "line"):
                other.put(name, kind, thing)
        for name, (kind, thing) in kept(house).items():
            if kind in ("group", "line"):
                other.put(name, kind, list(thing))
        self.assertTrue(house == other)
        other.drop("none")
        self.assertFalse(house == other)
        for thing in any_objects():
            self.assertFalse(house == thing)
        empty = House()
        empty.put("m", "file", obj("m"))
        empty.drop("m")
        self.assertTrue(empty == House())
        self.assertEqual((len(empty), len(House())), (2, 0))

    def test_put_errors(self):
        house = example()
        before, many = kept(house), len(house)
        for thing in any_objects():
            self.assertEqual(raised(house.put, thing, None, None), ("BadName", thing))
            self.assertEqual(raised(house.put, "x", thing, None), ("BadKind", thing))
            if not isinstance(thing, (Object, Archive, Library)):
                self.assertEqual(raised(house.put, "x", "file", thing), ("BadThing", thing))
            self.assertEqual(raised(house.put, "x", "hole", thing), ("BadThing", thing))
            self.assertEqual(raised(house.put, "x", "group", thing), ("BadThing", thing))
            if thing not in ([], ()):
                self.assertEqual(raised(house.put, "x", "line", thing), ("BadThing", thing))
            self.assertEqual(raised(house.put, "x", "group", ["no", thing]), ("BadThing", ["no", thing]))
            self.assertEqual(raised(house.put, "x", "line", ["no", thing]), ("BadThing", ["no", thing]))
        self.assertEqual(raised(house.put, "x", "hole", obj("a"))[0], "BadThing")
        self.assertEqual(raised(house.put, "x", "file", Hole({}))[0], "BadThing")
        for kind in ("group", "line"):
            self.assertEqual(raised(house.put, "x", kind, ["m", "lh", "no", "nor"]), ("Lacks", "no"))
        self.assertEqual(raised(house.put, "x", "group", ["ar", "g", "m"]), ("NotOf", "g"))
        for name in ("m", "lib", "h", "l", "g"):
            self.assertEqual(raised(house.put, "x", "group", ["ar", name]), ("NotOf", name))
        self.assertEqual(raised(house.put, "x", "line", ["ar", "m", "lib", "h", "g", "none", "l"]), ("NotOf", "none"))
        self.assertEqual((kept(house), len(house)), (before, many))

    def test_as_the_house_would_be_then(self):
        house = example()
        self.assertEqual(raised(house.put, "x", "line", ["x"]), ("NotOf", "x"))
        self.assertEqual(raised(house.put, "x", "group", ["x"]), ("NotOf", "x"))
        self.assertEqual(raised(house.put, "l", "line", ["m", "l"]), ("NotOf", "l"))
        self.assertEqual(raised(house.put, "ar", "group", ["ar"]), ("NotOf", "ar"))
        # what is put there may be named no more by what names it
        self.assertEqual(raised(house.put, "ar", "file", obj("a")), ("Needed", "ar", "g"))
        self.assertEqual(raised(house.put, "ar", "hole", Hole({})), ("Needed", "ar", "g"))
        self.assertEqual(raised(house.put, "m", "line", []), ("Needed", "m", "l"))
        self.assertEqual(raised(house.put, "h", "line", ["m"]), ("Needed", "h", "lh"))
        self.assertEqual(raised(house.put, "m", "line", ["lh"]), ("NotOf", "lh"))
        self.assertEqual(raised(house.put, "g", "line", ["m"]), ("Needed", "g", "l"))
        for name, kind, thing in (("ar", "file", Archive([])), ("m", "hole", Hole({})), ("h", "file", ARCHIVE),
                                  ("g", "file", obj("z")), ("lib", "group", ["ar"]), ("none", "file", obj("a"))):
            self.assertIsNone(raised(house.copy().put, name, kind, thing))

    def test_drop_errors(self):
        house = example()
        before, many = kept(house), len(house)
        for thing in [*any_objects(), "x"]:
            self.assertEqual(raised(house.drop, thing), ("NoName", thing))
            self.assertEqual(raised(house.held, thing), ("NoName", thing))
        for name, by in (("ar", "g"), ("g", "l"), ("h", "lh"), ("m", "l"), ("lib", "l")):
            self.assertEqual(raised(house.drop, name), ("Needed", name, by))
        self.assertEqual((kept(house), len(house)), (before, many))
        for name in ("none", "lh", "l", "g", "ar"):
            house.drop(name)
        self.assertEqual(list(house.names()), ["h", "lib", "m"])


class TestLines(unittest.TestCase):
    def test_programs(self):
        house = example()
        program = linked(house.store(), ["m", "g", "lib"])
        self.assertEqual(house.program("l"), program)
        told = house.told("l")
        self.assertEqual(told, (program.taken(), program.meanings(), program.libraries(), program.commons()))
        self.assertIs(type(told), tuple)
        for part in told:
            spoil(part)
        self.assertEqual(house.told(name="l"), (program.taken(), program.meanings(), program.libraries(), program.commons()))
        self.assertEqual(house.program(name="none"), linked(Store({}), []))
        self.assertEqual(house.bytes_of("ar"), file_row(ARCHIVE))
        spoil(house.bytes_of("ar"))
        self.assertEqual(house.bytes_of(name="ar"), file_row(ARCHIVE))

    def test_errors(self):
        house = example()
        for function in (house.program, house.told, house.mends):
            for thing in [*any_objects(), "x"]:
                self.assertEqual(raised(function, thing), ("NoName", thing))
            for name in ("m", "h", "g", "ar", "lib"):
                self.assertEqual(raised(function, name), ("NotOf", name))
            self.assertEqual(raised(function, "lh"), ("HasHole", "h"))
        for thing in [*any_objects(), "x"]:
            self.assertEqual(raised(house.bytes_of, thing), ("NoName", thing))
        for name in ("g", "h", "l"):
            self.assertEqual(raised(house.bytes_of, name), ("NotOf", name))
        house.put("big", "file", Object({}, [], [], [("a", "r", 1, [0] * 401)]))
        self.assertEqual(raised(house.bytes_of, "big"), ("TooLarge",))
        house.put("n", "file", obj("m"))
        house.put("hb", "hole", Hole({}))
        for words, error in ((["m", "n", "hb", "h"], ("HasHole", "hb")), (["m", "n"], ("Twice", "m")), (["m"], ("Missing", ("a",)))):
            house.put("q", "line", words)
            for function in (house.program, house.told):
                self.assertEqual(raised(function, "q"), error)
        self.assertEqual(house.made(), [])


class TestMadeAgain(unittest.TestCase):
    def test_an_outcome_a_program_a_row(self):
        house = example()
        self.assertEqual(house.made(), [])
        house.program("l")
        self.assertEqual(house.made(), [("outcome", "l"), ("program", "l")])
        house.program("l")
        house.told("l")
        self.assertEqual(house.made(), [])
        house.told("none")
        house.bytes_of("m")
        house.bytes_of("m")
        house.program("none")
        self.assertEqual(house.made(), [("outcome", "none"), ("row", "m"), ("program", "none")])
        spoil(house.made())
        self.assertEqual(house.made(), [])

    def test_faces(self):
        part = ("t", "r", 1, [1])
        house = example()
        house.put("m", "file", Object({"m": ("strong", None), "c": ("common", 1)}, ["a"], [], [part]))
        house.program("l")
        house.bytes_of("m")
        house.made()
        # other sections and spots: the program and the row alone
        house.put("m", "file", Object({"m": ("strong", (0, 1)), "c": ("common", 1)}, ["a"], [], [part, part]))
        house.told("l")
        self.assertEqual(house.made(), [])
        house.program("l")
        house.bytes_of("m")
        self.assertEqual(house.made(), [("program", "l"), ("row", "m")])
        for made in (Object({"m": ("weak", None), "c": ("common", 1)}, ["a"]), Object({"m": ("weak", None), "c": ("common", 2)}, ["a"]),
                     Object({"m": ("weak", None), "c": ("common", 2)}, ["a"], ["q"]), Object({"m": ("weak", None)}, ["a"])):
            house.put("m", "file", made)
            house.told("l")
            self.assertEqual(house.made(), [("outcome", "l")])
        house.told("l")
        self.assertEqual(house.made(), [])
        # the names of members count, and who else is in a group; all of a library
        house.put("ar", "file", Archive([("q", obj("a", "b"))]))
        house.told("l")
        self.assertEqual(house.made(), [("outcome", "l")])
        house.put("lib", "file", Library(["b"], [], [], [], True))
        house.told("l")
        self.assertEqual(house.made(), [("outcome", "l")])
        house.put("g", "group", ["ar"])
        house.told("l")
        self.assertEqual(house.made(), [("outcome", "l")])
        # what is not in the line does not count
        house.put("h", "file", obj("h"))
        house.put("z", "file", obj("z"))
        house.told("l")
        self.assertEqual(house.made(), [])
        house.put("l", "line", ["m", "g", "lib", "m"])
        house.told("l")
        self.assertEqual(house.made(), [("outcome", "l")])

    def test_no_less_would_do(self):
        # some other face of each object of the line makes the outcome otherwise, some other sections the program
        for seed in range(40):
            dice = random.Random(seed)
            house = House()
            for name in ("fa", "fb"):
                house.put(name, "file", random_object(dice, list("abc")))
            house.put("ar", "file", random_archive(dice, list("abc")))
            line = dice.choices(["fa", "fb", "ar"], k=3)
            house.put("l", "line", line)
            if raised(house.program, "l") is not None:
                continue
            before = house.told("l")
            for name in set(line) & {"fa", "fb"}:
                held = house.held(name)
                with_one_more = Object({**held.names(), "new": ("weak", None)}, held.wants(), held.asks(), held.sections())
                self.assertNotEqual(house.trial(lambda given: given.put(name, "file", with_one_more) or given.told("l")), before)
                parted = Object(held.names(), held.wants(), held.asks(), [*held.sections(), ("z", "r", 1, 1)])
                changed = house.trial(lambda given: given.put(name, "file", parted) or (given.told("l"), given.program("l")))
                self.assertEqual(changed[0], before)
                self.assertNotEqual(changed[1], house.program("l"))

    def test_members_that_are_not_taken(self):
        house = example()
        house.put("ar", "file", Archive([("p", obj("a", "b")), ("q", Object({"y": ("strong", None)}))]))
        house.program("l")
        house.made()
        house.put("ar", "file", Archive([("p", obj("a", "b")), ("q", Object({"y": ("strong", None)}, [], [], [("a", "r", 1, 1)]))]))
        house.program("l")
        self.assertEqual(house.made(), [])
        house.put("ar", "file", Archive([("p", Object({"a": ("strong", None)}, ["b"], [], [("a", "r", 1, 1)])),
                                         ("q", Object({"y": ("strong", None)}))]))
        house.program("l")
        self.assertEqual(house.made(), [("program", "l")])

    def test_the_last_for_a_name(self):
        house = example()
        house.program("l")
        house.made()
        house.drop("l")
        house.put("l", "line", ["m", "g", "lib"])
        house.undo()
        house.again()
        house.program("l")
        self.assertEqual(house.made(), [])
        house.put("l", "line", ["m", "g", "lib", "lib"])
        house.told("l")
        house.put("l", "line", ["m", "g", "lib"])
        house.program("l")
        # the outcome was made otherwise in between, the program was not
        self.assertEqual(house.made(), [("outcome", "l"), ("outcome", "l")])
        house.bytes_of("m")
        house.put("m", "file", obj("m", "ab"))
        house.bytes_of("m")
        house.put("m", "file", obj("m", "a"))
        house.bytes_of("m")
        self.assertEqual(house.made(), [("row", "m")] * 3)

    def test_what_raises_makes_nothing(self):
        house = example()
        house.program("l")
        house.made()
        house.put("lib", "file", Library([]))
        self.assertEqual(raised(house.told, "l"), ("Missing", ("b",)))
        self.assertEqual(house.made(), [])
        house.undo()
        house.program("l")
        self.assertEqual(house.made(), [])

    def test_told_as_if_all_was_just_put(self):
        made = told = 0
        for seed in range(60):
            dice = random.Random(seed)
            house = House()
            files = {"fa": random_object, "fb": random_archive, "fc": random_object, "fd": random_library}
            for name, maker in files.items():
                house.put(name, "file", maker(dice, list("abc")))
            house.put("g", "group", ["fb", "fb"])
            for name in ("l", "k"):
                house.put(name, "line", dice.choices(["fa", "fb", "fc", "fd", "g"], k=dice.randint(0, 4)))
            for _ in range(12):
                name = dice.choice(sorted(files))
                if dice.random() < 0.6:
                    house.put(name, "file", files[name](dice, list("abc")))
                elif dice.random() < 0.3 and len(house) > 7:
                    house.undo()
                fresh = House()
                for other, (kind, thing) in sorted(kept(house).items(), key=lambda pair: ["file", "group", "line"].index(pair[1][0])):
                    fresh.put(other, kind, thing)
                for line in ("l", "k"):
                    for what in ("program", "told"):
                        self.assertEqual(raised(getattr(house, what), line), raised(getattr(fresh, what), line))
                        if raised(getattr(fresh, what), line) is None:
                            self.assertEqual(getattr(house, what)(line), getattr(fresh, what)(line))
                            told += 1
                self.assertEqual(house.bytes_of(name), fresh.bytes_of(name))
                made += len(house.made())
        self.assertGreater(told, 300)
        self.assertGreater(told, made // 2)


class TestMends(unittest.TestCase):
    def test_among_all_rows(self):
        lengths = {}
        for seed in range(100):
            dice = random.Random(seed)
            house = House()
            for name in ("fa", "fc", "fe"):
                house.put(name, "file", random_object(dice, list("abcd")))
            house.put("fb", "file", random_archive(dice, list("abcd")))
            house.put("fd", "file", random_library(dice, list("abcd")))
            house.put("g", "group", ["fb"])
            house.put("h", "hole", Hole({}))
            line = dice.choices(["fa", "fb", "fc", "fd", "fe", "g"], k=dice.randint(0, 4))
            house.put("l", "line", line)
            store = house.store()
            changes = [("drop", index) for index in range(len(line))] + [("put", name) for name in store.files()]
            wanted = []
            for many in (0, 1, 2):
                for row in itertools.product(changes, repeat=many):
                    drops = [change[1] for change in row if change[0] == "drop"]
                    if [change[0] for change in row] == sorted(change[0] for change in row) and drops == sorted(set(drops)):
                        left = [name for index, name in enumerate(line) if index not in drops]
                        left += [change[1] for change in row if change[0] == "put"]
                        if plain_outcome(store, left)[0] == "links":
                            wanted.append(row)
                if wanted:
                    break
            told = house.mends("l")
            self.assertEqual(told, sorted(wanted))
            lengths[len(told[0]) if told else None] = lengths.get(len(told[0]) if told else None, 0) + 1
        self.assertGreater(min(lengths[0], lengths[1], lengths[2]), 3, lengths)

    def test_calls(self):
        house = example()
        self.assertEqual(house.mends(name="l"), [()])
        house.put("q", "line", ["m"])
        self.assertEqual(house.mends("q"), [(("drop", 0),)])
        house.put("n", "file", obj("", "klm"))
        house.put("q", "line", ["n", "n", "n", "m"])
        self.assertEqual(house.mends("q"), [])
        spoil(house.mends("q"))
        house.put("q", "line", ["ar", "m", "lib"])
        self.assertEqual(house.mends("q"), [(("drop", 1),), (("put", "ar"),), (("put", "g"),)])
        house.put("q", "line", ["m", "m"])
        self.assertEqual(house.mends("q"), [(("drop", 0), ("drop", 1)), (("put", "ar"), ("put", "lib")),
                                            (("put", "g"), ("put", "lib")), (("put", "lib"), ("put", "ar")),
                                            (("put", "lib"), ("put", "g"))])


class TestBack(unittest.TestCase):
    def test_deeds_taken_back(self):
        house = House()
        self.assertEqual(raised(house.undo), ("Nothing",))
        self.assertEqual(raised(house.again), ("Nothing",))
        house.put("m", "file", obj("m"))
        house.put("l", "line", ["m"])
        house.drop("l")
        self.assertEqual(len(house), 3)
        self.assertEqual(house.undo(), ("drop", "l"))
        self.assertEqual(house.held("l"), ("m",))
        self.assertEqual(house.undo(), ("put", "l", "line", ("m",)))
        self.assertEqual(len(house), 1)
        self.assertEqual(house.again(), ("put", "l", "line", ("m",)))
        house.undo()
        self.assertEqual(house.undo(), ("put", "m", "file", obj("m")))
        self.assertEqual(raised(house.undo), ("Nothing",))
        self.assertEqual(house.names(), {})
        for _ in range(3):
            house.again()
        self.assertEqual(list(house.names()), ["m"])
        self.assertEqual(raised(house.again), ("Nothing",))
        house.undo()
        # what is refused ends nothing; a new deed does
        self.assertEqual(raised(house.drop, "no"), ("NoName", "no"))
        self.assertEqual(house.again(), ("drop", "l"))
        house.undo()
        house.put("m", "file", obj("n"))
        self.assertEqual(raised(house.again), ("Nothing",))
        self.assertEqual(house.undo(), ("put", "m", "file", obj("n")))
        self.assertEqual(house.held("m"), obj("m"))

    def test_at_random(self):
        for seed in range(60):
            dice = random.Random(seed)
            house = House()
            past, future = [{}], []
            for _ in range(40):
                what = dice.randint(0, 5)
                if what <= 2:
                    name = dice.choice(["a", "b", "c", "d"])
                    thing, kind = dice.choice([(obj("x"), "file"), (ARCHIVE, "file"), (["a"], "group"), (["b", "c"], "line"),
                                               (Hole({}), "hole"), ([], "line")])
                    done = raised(house.put, name, kind, thing) is None
                elif what == 3:
                    done = raised(house.drop, dice.choice(["a", "b", "c", "d"])) is None
                elif what == 4:
                    done = False
                    if raised(house.undo) is None:
                        future.append(past.pop())
                else:
                    done = False
                    if raised(house.again) is None:
                        past.append(future.pop())
                if done:
                    past.append(kept(house))
                    future = []
                self.assertEqual(kept(house), past[-1])
                self.assertEqual(len(house), len(past) - 1)
            self.assertIs(raised(house.copy().again) is None, len(future) > 0)

    def test_copies(self):
        house = example()
        house.program("l")
        house.bytes_of("m")
        house.drop("none")
        house.undo()
        other = house.copy()
        self.assertTrue(other == house)
        self.assertEqual(len(other), len(house))
        self.assertEqual(other.made(), [("outcome", "l"), ("program", "l"), ("row", "m")])
        self.assertEqual(house.made(), [("outcome", "l"), ("program", "l"), ("row", "m")])
        other.program("l")
        self.assertEqual(other.made(), [])
        self.assertEqual(other.again(), ("drop", "none"))
        self.assertIn("none", house.names())
        other.undo()
        other.put("z", "file", obj("z"))
        self.assertEqual(house.again(), ("drop", "none"))
        self.assertEqual(other.undo(), ("put", "z", "file", obj("z")))
        house.told("l")
        self.assertEqual(house.made(), [])

    def test_trials(self):
        house = example()
        house.program("l")
        house.drop("none")
        house.undo()
        before, many = kept(house), len(house)

        def work(given):
            self.assertIs(given, house)
            given.made()
            given.put("none", "file", obj("y"))
            given.undo()
            given.undo()
            given.put("m", "file", obj("m", "ab"))
            given.program("l")
            given.bytes_of("m")
            self.assertEqual(given.trial(lambda inner: inner.drop("l") or len(inner)), len(given) + 1)
            self.assertIn("l", given.names())
            return ["told"]

        self.assertEqual(house.trial(work), ["told"])
        self.assertEqual(house.trial(work=len), many)
        self.assertEqual((kept(house), len(house)), (before, many))
        self.assertEqual(house.made(), [("outcome", "l"), ("program", "l")])
        self.assertEqual(house.again(), ("drop", "none"))
        house.undo()

        def failing(given):
            given.drop("l")
            given.made()
            raise KeyError("out")

        with self.assertRaises(KeyError):
            house.trial(failing)
        self.assertEqual((kept(house), len(house)), (before, many))
        with self.assertRaises(LinkError):
            house.trial(lambda given: given.drop("l") or given.drop("l"))
        self.assertEqual((kept(house), len(house)), (before, many))
        self.assertEqual(house.again(), ("drop", "none"))

    def test_at_the_limits(self):
        house = House()
        for one in "ab":
            for other in "abcdefghij":
                house.put(one + other, "file", obj([one + other]))
        for _ in range(20):
            house.put("aa", "file", obj(["aa"]))
        self.assertEqual(len(house), 40)
        for _ in range(40):
            house.undo()
        self.assertEqual(house, House())


if __name__ == "__main__":
    unittest.main()
