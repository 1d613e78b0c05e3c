"""Promise 90: what others see of a line when an object of a store is exchanged."""

import random
import unittest

from linklines.changes import face_of
from linklines.exchanged import first_seen
from linklines.objects import Archive, Library, Object
from linklines.stands import stands
from linklines.stores import Store
from tests.tools import any_objects, call_alike, lines_up_to, obj, plain_outcome, plain_taken, raised, random_object, random_store


def plainly_seen(store, line, file):
    """What others than a file see of a line."""
    end = plain_outcome(store, line)
    if end[0] != "links":
        return end
    taken = [(who, held) for who, held, _ in plain_taken(store, line)[0] if who != (file, None)]
    known = {name for _, held in taken for name in [*held.names(), *held.wants(), *held.asks()]}
    return ([who for who, _ in taken], [(name, meaning[1]) for name, meaning in end[1] if name in known])


def plainly_first(store, file, made, most):
    other = Store({**{name: store.file(name) for name in store.files()}, file: made})
    for line in lines_up_to(store.files(), most):
        if plainly_seen(store, line, file) != plainly_seen(other, line, file):
            return list(line)
    return None


def with_an_object(seed):
    """A store with an object in it, the object's name, and another object."""
    while True:
        dice = random.Random(seed)
        store = random_store(seed, 4, "abcd")
        objects = [name for name in store.files() if isinstance(store.file(name), Object)]
        if objects and len(stands(store)) <= 100:
            name = dice.choice(objects)
            held = store.file(name)
            made = random_object(dice, list("abcde"))
            if dice.random() < 0.5:
                # nearly the same one
                told = {word: (dice.choice(["strong", "weak"]), None) for word in held.names()}
                made = Object(told, held.wants(), [word for word in held.asks() if dice.random() < 0.5])
            return store, name, made
        seed += 10000


class TestExchanged(unittest.TestCase):
    def test_among_short_lines(self):
        lengths = {}
        for seed in range(120):
            store, name, made = with_an_object(seed)
            told = first_seen(store, name, made)
            if told is None or len(told) > 4:
                self.assertIsNone(plainly_first(store, name, made, 4))
            else:
                self.assertEqual(told, plainly_first(store, name, made, len(told)))
            lengths[None if told is None else len(told)] = lengths.get(None if told is None else len(told), 0) + 1
        self.assertGreater(min(lengths[None], lengths[1], lengths[2]), 5, lengths)

    def test_objects_of_one_face_are_never_seen(self):
        store = Store({"m": Object({"f": ("strong", (0, 0)), "c": ("common", 2)}, ["a"], ["b"], [("t", "rx", 4, [1, 2])]),
                       "n": obj("a", "f"), "o": obj("b", "c")})
        other = Object({"f": ("strong", (0, 2)), "c": ("common", 2)}, ["a"], ["b"], [("t", "rx", 4, [("a", 9), 7])])
        self.assertEqual(face_of(other), face_of(store.file("m")))
        self.assertIsNone(call_alike(self, first_seen, store, "m", other))

    def test_names_that_nobody_else_knows(self):
        store = Store({"m": obj("m"), "ar": Archive([("p", obj("a", "b"))]), "n": obj("n", "a")})
        self.assertIsNone(first_seen(store, "m", obj("mz", "", "y")))
        # but wanted ones are missing
        self.assertEqual(first_seen(store, "m", obj("m", "z")), ["m"])
        self.assertEqual(first_seen(store, "m", obj("mn")), ["m", "n"])
        self.assertEqual(first_seen(store, "m", obj("m", "", "b")), None)

    def test_weak_for_strong(self):
        weak = Object({"m": ("weak", None)})
        self.assertIsNone(first_seen(Store({"m": obj("m"), "n": obj("n", "m"), "l": Library(["m"])}), "m", weak))
        self.assertEqual(first_seen(Store({"m": obj("m"), "n": obj("m")}), "m", weak), ["m", "n"])

    def test_who_is_taken_and_what_is_missing(self):
        pair = Archive([("p", obj("a")), ("q", obj("b"))])
        store = Store({"m": obj("m", "b"), "ar": pair, "n": obj("n", "a"), "o": obj("o", "b")})
        self.assertEqual(first_seen(store, "m", obj("m", "ab")), ["m"])
        self.assertEqual(first_seen(store, "m", obj("m", "", "ab")), ["m"])
        lone = Store({"m": obj("m"), "one": Archive([("p", obj("a"))]), "n": obj("n", "ab"), "lib": Library(["a", "b"])})
        self.assertEqual(first_seen(lone, "m", obj("ma")), ["m", "n"])
        # a name that is asked for alone takes nobody; who wants it in a member counts as well
        asked = Store({"m": obj("m"), "ar": Archive([("p", obj("a", "", "k"))]), "n": obj("n", "a")})
        self.assertEqual(first_seen(asked, "m", obj("mk")), ["m", "n", "ar"])

    def test_the_order_alone(self):
        # p comes for x, which w wants, or later for y, which q wants: the same are taken, in another order
        store = Store({"m": obj("m"), "n": obj("n", "ab"),
                       "ar": Archive([("w", obj("a", "x")), ("p", obj("xy")), ("q", obj("b", "y"))])})
        made = Object({"m": ("strong", None), "x": ("weak", None)})
        self.assertEqual(first_seen(store, "m", made), ["m", "n", "ar"])
        self.assertEqual(plainly_first(store, "m", made, 3), ["m", "n", "ar"])
        # while a name is missing nobody sees it: there it is seen as soon as nothing is missing
        far = Store({**{name: store.file(name) for name in store.files()}, "o": obj("o"), "n": obj("n", "abo")})
        self.assertEqual(first_seen(far, "m", made), ["m", "n", "ar", "o"])
        self.assertEqual(plainly_first(far, "m", made, 4), ["m", "n", "ar", "o"])
        self.assertIsNone(first_seen(Store({"m": obj("m"), "n": obj("n", "ab"), "ar": Archive(
            [("w", obj("a", "x")), ("q", obj("b", "y")), ("p", obj("xy"))])}), "m", made))

    def test_where_something_is_always_missing(self):
        # behind the one object there are more stands than behind the other one, and nobody sees it
        weak = Object({"x": ("weak", None)})
        store = Store({"m": Object({"x": ("weak", None)}, ["z"]), "n": weak, "o": obj("o", "x"), "ar": Archive([("p", obj("y"))])})
        made = Object({"x": ("strong", None)}, ["z"])
        self.assertIsNone(first_seen(store, "m", made))
        self.assertIsNone(plainly_first(store, "m", made, 4))
        files = {name: store.file(name) for name in store.files()}
        self.assertNotEqual(len(stands(store)), len(stands(Store({**files, "m": made}))))
        # as soon as something is there that can be missing else, it is seen
        files["q"] = obj("q", "y")
        made = Object({"x": ("strong", None), "y": ("weak", None)}, ["z"])
        told = first_seen(Store(files), "m", made)
        self.assertEqual(told, ["m", "q"])
        self.assertEqual(told, plainly_first(Store(files), "m", made, 2))
        far = Store({**files, "a": Archive([("k", obj("k", "y"))]), "q": obj("q", "k")})
        told = first_seen(far, "m", made)
        self.assertEqual(told, plainly_first(far, "m", made, 3))
        self.assertEqual(len(told), 3)

    def test_errors(self):
        store = Store({"m": obj("m"), "ar": Archive([]), "l": Library([]), "g": ["ar"]})
        for thing in [*any_objects(), "x"]:
            self.assertEqual(raised(first_seen, store, thing, None), ("NoFile", thing))
            if not isinstance(thing, Object):
                self.assertEqual(raised(first_seen, store, "m", thing), ("BadObject", thing))
        for name in ("ar", "l", "g"):
            self.assertEqual(raised(first_seen, store, name, None), ("NoObject", name))
        self.assertEqual(first_seen(store=store, file="m", obj=obj("n", "k")), ["m"])


if __name__ == "__main__":
    unittest.main()
