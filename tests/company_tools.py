"""Rows of libraries read plainly after the document, and all companies of small stores."""

import itertools
import random

from linklines.objects import Library
from linklines.stores import Store
from tests.tools import obj, random_library

WORDS = ["a", "b", "c"]
NAMES = ["m", "n"]


def example_34():
    return Store({"a": Library(["n"], [], [], ["b"]), "b": Library(["m"]), "c": Library(["n", "m"], ["m", "n"])})


def random_libraries(seed, words=tuple(WORDS)):
    dice = random.Random(seed)
    made = {word: random_library(dice, NAMES, words) for word in words}
    return Store({**made, "main": obj("m")})


def random_needs(seed):
    dice = random.Random(seed)
    things = dice.sample(WORDS, dice.randint(0, 2))
    for _ in range(dice.randint(0, 2)):
        things.insert(dice.randint(0, len(things)), dice.sample(NAMES, dice.choice([0, 0, 1])))
    return things


def plain_holes(needs):
    return [thing for thing in needs if not isinstance(thing, str)]


def plain_row(store, needs, company):
    holes = itertools.count()
    loaded = [thing if isinstance(thing, str) else next(holes) for thing in needs]
    for thing in loaded:
        needed = store.file(thing).needs() if isinstance(thing, str) else company[thing][1]
        for name in needed:
            if name not in loaded:
                loaded.append(name)
    return loaded


def plain_first(store, loaded, company, name):
    for thing in loaded:
        if name in (store.file(thing).tells() if isinstance(thing, str) else company[thing][0]):
            return thing
    return None


def plain_binding(store, loaded, company, reference):
    library, name = reference
    if store.file(library).own_first() and name in store.file(library).tells():
        return library
    return plain_first(store, loaded, company, name)


def all_companies(needs, names):
    """All companies that tell some of the names."""
    rows = [row for many in range(len(WORDS) + 1) for row in itertools.permutations(WORDS, many)]
    choices = []
    for promised in plain_holes(needs):
        free = [name for name in names if name not in promised]
        told = [row for many in range(len(free) + 1) for row in itertools.combinations(free, many)]
        choices.append(list(itertools.product(told, rows)))
    return [list(company) for company in itertools.product(*choices)]


def all_rows(store, needs, name):
    """The pairs (company, row) with all companies that tell the name or do not."""
    return [(company, plain_row(store, needs, company)) for company in all_companies(needs, [name])]


def all_references(store):
    return [(library, name) for library in WORDS
            for name in sorted([*store.file(library).wants(), *store.file(library).asks()])]


def in_order(things):
    """Unlike things: libraries, holes, None."""
    libraries = sorted({thing for thing in things if isinstance(thing, str)})
    holes = sorted({thing for thing in things if isinstance(thing, int)})
    return [*libraries, *holes, *([None] if None in things else [])]


def grounds(many):
    """Stores with needs."""
    return [(random_libraries(seed), random_needs(seed)) for seed in range(many)]
