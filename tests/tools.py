"""What several tests share: stores made at random from a seed, plain readers of lines, ways to call."""

import copy
import inspect
import itertools
import random

from linklines.errors import LinkError
from linklines.keeping import Rules
from linklines.nametables import NameTable
from linklines.objects import Archive, Library, Object
from linklines.plans import Plan
from linklines.releases import Releases
from linklines.scripts import Script
from linklines.sheets import Sheet
from linklines.starts import Starts
from linklines.stores import Store
from linklines.uses import Uses
from linklines.wishes import Wishes
from linklines.worlds import World

STRONG = ("strong", None)
WEAK = ("weak", None)


def obj(told, wants=(), asks=()):
    """An object that tells the signs of told, strongly, and wants and asks for those of the others."""
    return Object({name: STRONG for name in told}, list(wants), list(asks))


def example_10():
    return Store({
        "main": Object({"main": ("strong", None)}, ["b"]),
        "one": Archive([("a", Object({"a": ("strong", None)}, ["c"])), ("b", Object({"b": ("strong", None)}, ["a"]))]),
        "two": Archive([("c", Object({"c": ("weak", None)}))]),
    })


def any_objects():
    """Things of every sort that the document counts among any objects, none of them a word of use."""
    return [None, True, False, 0, 1, -1, 10 ** 30, "", "A", "a" * 9, "no such", [], (), {}, {"a": 1}, [[]], ["a", ["b"]],
            {"a": []}, (None, None), obj("a"), Archive([]), Library([]), Store({}), [obj("a")], ({},)]


def as_lists(thing):
    if isinstance(thing, (list, tuple)):
        return [as_lists(part) for part in thing]
    if isinstance(thing, dict):
        return {key: as_lists(worth) for key, worth in thing.items()}
    return thing


def as_tuples(thing):
    if isinstance(thing, (list, tuple)):
        return tuple(as_tuples(part) for part in thing)
    if isinstance(thing, dict):
        return {key: as_tuples(worth) for key, worth in thing.items()}
    return thing


def is_told_well(thing, top=True):
    """Whether a told list has tuples only in it (dicts and objects aside)."""
    if isinstance(thing, list):
        return top and all(is_told_well(part, False) for part in thing)
    if isinstance(thing, tuple):
        return all(is_told_well(part, False) for part in thing)
    return True


def spoil(thing):
    """Changes a told list or dict, to see whether this is noticed elsewhere."""
    if isinstance(thing, list):
        thing.append("spoilt")
    if isinstance(thing, dict):
        thing["spoilt"] = "spoilt"


def call_alike(case, function, *args, told_lists=True):
    """Calls with lists, with tuples, by place, by name; tells what all of them told."""
    names = list(inspect.signature(function).parameters)
    first = function(*args)
    if told_lists:
        case.assertTrue(is_told_well(first), first)
    listed, paired = as_lists(args), as_tuples(args)
    kept = copy.deepcopy(listed)
    for other in (function(*listed), function(*paired), function(**dict(zip(names, listed)))):
        case.assertEqual(first, other)
        case.assertIs(type(first), type(other))
        spoil(other)
    case.assertEqual(kept, listed)
    again = function(*[rebuilt(thing) for thing in args])
    case.assertEqual(first, again)
    if isinstance(first, dict):
        case.assertEqual(list(first), list(again))
    return first


def rebuilt(thing):
    """An equal thing that was made otherwise, or the thing itself."""
    if isinstance(thing, Store):
        return Store({name: as_lists(thing.file(name)) for name in reversed(thing.files())})
    if isinstance(thing, Releases):
        made = {name: [as_lists(thing.release(name, number + 1)) for number in range(many)]
                for name, many in reversed(thing.libraries().items())}
        return Releases({name: [(tells[::-1], wants[::-1]) for tells, wants in kept] for name, kept in made.items()})
    if isinstance(thing, World):
        return World(dict(reversed(thing.libraries().items())), tuple(thing.start()), thing.rule())
    if isinstance(thing, Starts):
        return Starts(rebuilt(thing.world()), dict(reversed(thing.begins().items())), as_lists(thing.ends()))
    if isinstance(thing, Wishes):
        return Wishes(tuple(thing.words()), as_lists(thing.pairs()))
    if isinstance(thing, Uses):
        return Uses(as_lists(dict(reversed(thing.calls().items()))))
    if isinstance(thing, Script):
        return Script(as_lists(thing.rules()))
    if isinstance(thing, Plan):
        return Plan(thing.page(), as_lists(thing.parts()))
    if isinstance(thing, Sheet):
        return Sheet(as_tuples(dict(reversed(thing.bodies().items()))))
    if isinstance(thing, Rules):
        return Rules(tuple(thing.sections()), as_lists(thing.rules()))
    if isinstance(thing, NameTable):
        return NameTable(tuple(thing.words()), *thing.measures())
    if isinstance(thing, dict):
        return dict(reversed(thing.items()))
    return thing


def raised(function, *args):
    """The error that a call raises, as (its class's name, what it keeps), None if it raises none."""
    try:
        function(*args)
    except LinkError as error:
        return (type(error).__name__, *vars(error).values())
    return None


def lines_up_to(words, most):
    """All lines of at most so many files, in the order of choices."""
    for many in range(most + 1):
        yield from itertools.product(sorted(words), repeat=many)


# A second reader of lines, written straight after the document and nothing else.

def plain_taken(store, line):
    """The list of (who, object, cause) of those taken, and the libraries read."""
    taken, loaded = [], []

    def tellers(name):
        return [who for who, held, _ in taken if name in held.names()]

    def wanters(name):
        return [who for who, held, _ in taken if name in held.wants()]

    def is_led(name):
        return any(name in store.file(library).tells() for library in loaded)

    def look(archive):
        took = False
        for word, held in store.file(archive).members():
            who = (archive, word)
            if who in [other for other, _, _ in taken]:
                continue
            letting = [n for n in sorted(held.names()) if wanters(n) and not tellers(n) and not is_led(n)]
            if letting:
                taken.append((who, held, (letting[0], wanters(letting[0])[0])))
                took = True
        return took

    def read_archive(archive):
        took = False
        while look(archive):
            took = True
        return took

    for name in line:
        held = store.file(name)
        if isinstance(held, Object):
            if (name, None) not in [who for who, _, _ in taken]:
                taken.append(((name, None), held, None))
        elif isinstance(held, Archive):
            read_archive(name)
        elif isinstance(held, tuple):
            while any([read_archive(archive) for archive in held]):
                pass
        elif name not in loaded:
            loaded.append(name)
    return taken, loaded


def plain_standing(taken, name):
    """(kind, who) of what stands for a name, None if nobody tells it."""
    for kind in ("strong", "common", "weak"):
        for who, held, _ in taken:
            if held.names().get(name, ("", 0))[0] == kind:
                return (kind, who)
    return None


def plain_stand(store, line):
    taken, loaded = plain_taken(store, line)
    told = sorted({name for _, held, _ in taken for name in held.names()})
    led = sorted({name for library in loaded for name in store.file(library).tells()})
    first = {name: [library for library in loaded if name in store.file(library).tells()][0] for name in led}
    return (tuple(sorted(who for who, _, _ in taken)),
            tuple((name, plain_standing(taken, name)) for name in told),
            tuple((name, first[name]) for name in led))


def plain_outcome(store, line):
    taken, loaded = plain_taken(store, line)
    names = sorted({name for _, held, _ in taken for name in [*held.names(), *held.wants(), *held.asks()]})
    strong = [name for _, held, _ in taken for name, worth in held.names().items() if worth[0] == "strong"]
    twice = sorted(name for name in names if strong.count(name) > 1)
    if twice:
        return ("twice", twice[0])
    meanings, missing = [], []
    for name in names:
        standing = plain_standing(taken, name)
        leading = [library for library in loaded if name in store.file(library).tells()]
        if standing:
            meanings.append((name, standing))
        elif leading:
            meanings.append((name, ("library", leading[0])))
        elif any(name in held.wants() for _, held, _ in taken):
            missing.append(name)
        else:
            meanings.append((name, ("nothing", None)))
    return ("missing", tuple(missing)) if missing else ("links", tuple(meanings))


# Stores at random, but the same for each seed.

def random_object(dice, names, most_told=2, kinds=("strong", "strong", "weak", "common")):
    told = {}
    for name in dice.sample(names, dice.randint(0, most_told)):
        kind = dice.choice(kinds)
        told[name] = (kind, dice.randint(1, 3)) if kind == "common" else (kind, None)
    left = [name for name in names if name not in told]
    wants = dice.sample(left, dice.randint(0, min(2, len(left))))
    left = [name for name in left if name not in wants]
    return Object(told, wants, dice.sample(left, dice.randint(0, min(1, len(left)))))


def random_archive(dice, names, most=3):
    return Archive([(word, random_object(dice, names)) for word in "pqrs"[:dice.randint(0, most)]])


def random_library(dice, names, libraries=()):
    refs = dice.sample(names, dice.randint(0, min(3, len(names))))
    cut = dice.randint(0, len(refs))
    needs = dice.sample(list(libraries), dice.randint(0, min(2, len(libraries))))
    return Library(dice.sample(names, dice.randint(0, 2)), refs[:cut], refs[cut:], needs, dice.random() < 0.4)


def random_store(seed, files=4, names="abcde"):
    dice = random.Random(seed)
    made = {}
    archives = []
    for word in ["fa", "fb", "fc", "fd", "fe", "ff"][:files]:
        chance = dice.random()
        if chance < 0.4:
            made[word] = random_object(dice, list(names))
        elif chance < 0.7:
            made[word] = random_archive(dice, list(names))
            archives.append(word)
        elif chance < 0.85 or not archives:
            made[word] = random_library(dice, list(names))
        else:
            made[word] = [dice.choice(archives) for _ in range(dice.randint(1, 2))]
    return Store(made)


def random_clear_archives(seed, archives=2, names="abcd", most_members=4):
    """A dict of archives that are clear together: all names told strongly by just one member."""
    dice = random.Random(seed)
    left = list(names)
    dice.shuffle(left)
    made = {}
    for word in ["one", "two", "three"][:archives]:
        members = []
        for member in "pqrs"[:dice.randint(1, most_members)]:
            told = [left.pop() for _ in range(min(len(left), dice.choice([0, 1, 1, 1, 2])))]
            others = [name for name in [*names, "x"] if name not in told]
            members.append((member, obj(told, dice.sample(others, dice.randint(0, 3)))))
        made[word] = Archive(members)
    return made


def all_mains(names):
    """All mains over some names."""
    for marks in itertools.product("wh.", repeat=len(names)):
        yield (tuple(n for n, m in zip(names, marks) if m == "w"), tuple(n for n, m in zip(names, marks) if m == "h"))
