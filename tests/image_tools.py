"""Stores with sections at random, and programs of them with some objects otherwise."""

import random

from linklines.objects import Archive, Library, Object
from linklines.stores import Store

RIGHTS = ("r", "rw", "rx")


def example_91():
    main = Object({"main": ("strong", (0, 0))}, ["f"], [], [("text", "rx", 4, [1, ("f", 0)])])
    lib = Object({"f": ("strong", (0, 1))}, [], [], [("text", "rx", 4, [7, 8, 9])])
    end = Object({"e": ("strong", (0, 0))}, ["main"], [], [("data", "rw", 4, [("main", 0), ("e", 2)])])
    return Store({"main": main, "lib": lib, "end": end})


def length(body):
    return body if isinstance(body, int) else len(body)


def random_parted(dice, told, wants, asks=()):
    """An object with sections that tells and wants these."""
    sections = []
    for at in range(dice.choice([0, 1, 1, 2])):
        names = [*told, *wants, *asks]
        cells = [dice.choice([3, (dice.choice(names), dice.randint(-2, 2)) if names else 4]) for _ in range(dice.randint(0, 4))]
        sections.append(("sec" + str(at), dice.choice(RIGHTS), dice.choice([1, 1, 2, 4, 8]),
                         dice.choice([cells, cells, cells, dice.randint(0, 3)])))
    names = {}
    for name in told:
        kind = dice.choice(["strong", "strong", "weak", "common"])
        spot = None
        if sections and dice.random() < 0.85:
            number = dice.randrange(len(sections))
            spot = (number, dice.randint(0, length(sections[number][3])))
        names[name] = (kind, dice.randint(1, 3)) if kind == "common" else (kind, spot)
    return Object(names, wants, asks, sections)


def random_parted_store(seed):
    """A store and a line that links."""
    dice = random.Random(seed)
    names = ["a", "b", "c", "d", "e"]
    wants = dice.sample(names, 2)
    files = {"main": random_parted(dice, ["m"], wants, ["x"]),
             "one": random_parted(dice, [names[0], names[1]], [names[2]]),
             "ar": Archive([("p", random_parted(dice, [names[2]], [names[3]])), ("q", random_parted(dice, [names[3]], []))]),
             "two": random_parted(dice, [names[4]], ["h", "m"]),
             "lib": Library(["h"])}
    return Store(files), dice.sample(["main", "one", "two"], 3) + ["ar", "ar", "lib"]


def with_object(store, who, made):
    """The store with another object in the place of one of its own."""
    files = {name: store.file(name) for name in store.files()}
    if who[1] is None:
        files[who[0]] = made
    else:
        files[who[0]] = Archive([(word, made if word == who[1] else held) for word, held in files[who[0]].members()])
    return Store(files)


def longer(obj, growths, spots=()):
    """The object with sections longer by growths, and with other offsets of some names: pairs (name, offset)."""
    sections = []
    for (name, rights, align, body), growth in zip(obj.sections(), growths):
        sections.append((name, rights, align, body + growth if isinstance(body, int) else [*body, *[0] * growth]))
    names = obj.names()
    for name, offset in spots:
        names[name] = (names[name][0], (names[name][1][0], offset))
    return Object(names, obj.wants(), obj.asks(), sections)
