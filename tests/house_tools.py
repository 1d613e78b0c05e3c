"""Houses at random, and what their lines lead to, read plainly."""

import itertools
import random

from linklines.fillings import few_words
from linklines.holes import Hole
from linklines.houses import House
from linklines.objects import Archive, Library, Object
from linklines.stores import Store
from tests.tools import obj, plain_outcome, random_archive, random_library, random_object

SORTS = ["no", "wanted", "weak", "common", "strong"]


def example_111():
    house = House()
    house.put("main", "file", Object({"main": ("strong", None)}, ["a"]))
    house.put("h", "hole", Hole({}))
    house.put("l", "line", ["main", "h"])
    return house


def random_hole(dice, names):
    sorts = {name: dice.sample(SORTS, dice.randint(1, 3)) for name in dice.sample(names, dice.randint(0, 2))}
    return Hole(sorts, dice.random() < 0.25)


def random_house(seed, names="ab", holes=2):
    """A house with a line l in which there are holes."""
    dice = random.Random(seed)
    house = House()
    made = {"fa": random_object(dice, list(names)), "fb": random_archive(dice, list(names)),
            "fc": random_archive(dice, list(names), 2), "fd": random_library(dice, list(names)), "fe": obj("m", names[0])}
    for name, thing in made.items():
        house.put(name, "file", thing)
    house.put("g", "group", dice.choices(["fb", "fc"], k=2))
    for name in ["ha", "hb", "hc"][:holes]:
        house.put(name, "hole", random_hole(dice, list(names)))
    words = dice.choices(sorted(house.names()), k=dice.randint(1, 4)) + ["ha", "hb", "hc"][:dice.randint(0, holes)]
    dice.shuffle(words)
    house.put("l", "line", words)
    return house


def files_of(house, line):
    """What the line names, also by way of groups."""
    named = {name: house.held(name) for name in line}
    for held in list(named.values()):
        if isinstance(held, tuple):
            named.update({name: house.held(name) for name in held})
    return named


def made_with(face):
    names = {word: (sort, 2 if sort == "common" else None) for word, sort in face if sort != "wanted"}
    return Object(names, [word for word, sort in face if sort == "wanted"])


def allowed(hole, word):
    return hole.sorts().get(word, SORTS if hole.others() else ["no"])


def plain_fillings(house, line, words):
    """All fillings with these words, in their order."""
    named = files_of(house, line)
    holes = sorted(name for name in named if isinstance(named[name], Hole))
    faces = []
    for hole in holes:
        rows = itertools.product(*[allowed(named[hole], word) for word in words])
        faces.append([tuple(pair for pair in zip(words, row) if pair[1] != "no") for row in rows])
    found = [dict(zip(holes, row)) for row in itertools.product(*faces)]
    return sorted(found, key=lambda filling: (sum(map(len, filling.values())), list(filling.values())))


def store_with(house, line, filling):
    named = files_of(house, line)
    return Store({name: made_with(filling[name]) if name in filling else held for name, held in named.items()})


def plain_ends(house, line, words=None):
    """The pairs (filling, outcome) of all fillings, in their order."""
    words = few_words(files_of(house, line)) if words is None else words
    return [(filling, plain_outcome(store_with(house, line, filling), line)) for filling in plain_fillings(house, line, words)]


def plain_words(house, line):
    """The words of FEW DO, read plainly."""
    words = set()
    for held in files_of(house, line).values():
        members = [held] if isinstance(held, (Object, Library)) else []
        if isinstance(held, Archive):
            members = [member for _, member in held.members()]
        for member in members:
            told = member.tells() if isinstance(member, Library) else list(member.names())
            words |= {*told, *member.wants(), *member.asks()}
        if isinstance(held, Hole):
            words |= set(held.sorts())
    others = ["".join(row) for many in (1, 2) for row in itertools.product("abcdefghijklmnopqrstuvwxyz", repeat=many)]
    return sorted(words | {next(word for word in others if word not in words)})
