"""Worlds at random from a seed, and processes read plainly after the document."""

import copy
import random

from linklines.objects import Library
from linklines.roads import Roads
from linklines.scenes import first_scene
from linklines.worlds import World

WORDS = ["a", "b", "c", "d"]
NAMES = ["f", "g", "h"]
RULES = ("loose", "counted", "reached")
OPEN = ("open", "b", "lazy", "all")
CALL = ("call", "a", "g")


def example_52(rule="loose"):
    return World({"a": Library(["f"], ["f"], ["g"]), "b": Library(["f", "g"])}, ["a"], rule)


def ring_52(rule="counted"):
    return World({"x": Library(["p"], ["q"]), "y": Library(["q"], ["p"])}, [], rule)


def random_libraries(dice, words, names=NAMES, most_refs=2):
    made = {}
    for word in words:
        refs = dice.sample(names, dice.randint(0, most_refs))
        cut = dice.randint(0, len(refs))
        needs = dice.sample(words, dice.choice([0, 0, 1, 1, 2]) if len(words) > 1 else 0)
        made[word] = Library(dice.sample(names, dice.choice([0, 1, 1, 2])), refs[:cut], refs[cut:], needs,
                             dice.random() < 0.25, dice.random() < 0.12)
    return made


def random_world(seed, words=3, most_refs=2):
    dice = random.Random(seed)
    made = random_libraries(dice, WORDS[:words], most_refs=most_refs)
    start = dice.sample(WORDS[:words], dice.choice([0, 0, 1, 1, 2]) if words > 1 else 0)
    return World(made, start, dice.choice(RULES))


def busy_world(seed):
    """Two or three libraries that refer to one another's names, so that much is bound, and gone, or kept by rings."""
    dice = random.Random(seed)
    words = WORDS[:dice.choice([2, 2, 3])]
    made = {}
    for at, word in enumerate(words):
        tells = [NAMES[at]] if dice.random() < 0.8 else [dice.choice(NAMES)]
        refs = [dice.choice([name for name in NAMES[:len(words)] if name not in tells] or NAMES)]
        needs = [word for word in words if dice.random() < 0.15]
        wants, asks = (refs, []) if dice.random() < 0.5 else ([], refs)
        made[word] = Library(tells, wants, asks, needs, dice.random() < 0.1, dice.random() < 0.1)
    return World(made, dice.choice([[], words[:1], words[:1], words[-1:]]), dice.choice(RULES))


def slots_of(library):
    return sorted(library.wants() + library.asks())


def all_deeds(world, names=NAMES):
    """All deeds of a world, ascending, with finds of these names."""
    found = []
    for word, library in world.libraries().items():
        found.extend(("open", word, when, where) for when in ("now", "lazy") for where in ("all", "own"))
        found.append(("close", word))
        found.extend(("call", word, name) for name in slots_of(library))
        found.extend(("find", word, name) for name in names)
    return sorted(found)


class Plain:
    """A process, done step by step as the document words it."""

    def __init__(self, world):
        self.world = world
        self.libs = world.libraries()
        first = self.group(world.start())
        self.start_list = first
        self.there = [(word, tuple(first)) for word in first]
        self.search = list(first)
        self.count = {}
        self.slots = {(word, name): "free" for word in first for name in slots_of(self.libs[word])}
        self.answers = []

    def group(self, words):
        level, met = list(words), list(words)
        while level:
            level = list(dict.fromkeys(need for word in level for need in self.libs[word].needs() if need not in met))
            met += level
        return met

    def present(self):
        return [word for word, _ in self.there]

    def key(self):
        return repr((self.there, self.search, sorted(self.count.items()), sorted(self.slots.items())))

    def copy(self):
        other = copy.copy(self)
        other.there, other.search = list(self.there), list(self.search)
        other.count, other.slots, other.answers = dict(self.count), dict(self.slots), list(self.answers)
        return other

    def take(self, other):
        self.there, self.search, self.count, self.slots = other.there, other.search, other.count, other.slots

    def bind(self, word, name):
        library = self.libs[word]
        home = dict(self.there)[word]
        among = [word] if library.own_first() else []
        among += self.search
        among += [other for other in home if other in self.present()]
        tellers = [other for other in among if name in self.libs[other].tells()]
        if tellers:
            return ("to", tellers[0])
        return "nobody" if name in library.asks() else "missing"

    def call(self, word, name):
        if word not in self.present():
            return "not there"
        if self.slots[(word, name)] == "free":
            answer = self.bind(word, name)
            if answer == "missing":
                return answer
            self.slots[(word, name)] = answer
        return self.slots[(word, name)]

    def find(self, word, name):
        if word not in self.present():
            return "not there"
        tellers = [other for other in self.group([word]) if name in self.libs[other].tells()]
        return ("to", tellers[0]) if tellers else "missing"

    def open(self, word, when, where):
        trial = self.copy()
        group = self.group([word])
        newcomers = [other for other in group if other not in self.present()]
        for other in newcomers:
            trial.there.append((other, tuple(group)))
            for name in slots_of(self.libs[other]):
                trial.slots[(other, name)] = "free"
        if where == "all":
            trial.search += [other for other in group if other not in trial.search]
        if when == "now":
            for other in newcomers:
                for name in slots_of(self.libs[other]):
                    if trial.call(other, name) == "missing":
                        return ("missing", other, name)
        trial.count[word] = trial.count.get(word, 0) + 1
        self.take(trial)
        return "opened"

    def close(self, word):
        leaving = self.close_begin(word)
        if leaving is None:
            return "not open"
        self.leave(leaving)
        return "closed"

    def close_begin(self, word):
        if word not in self.count:
            return None
        self.count[word] -= 1
        self.count = {other: many for other, many in self.count.items() if many}
        kept = self.kept(self.world.rule())
        return [other for other in self.present() if other not in kept]

    def leave(self, leaving):
        self.there = [(word, home) for word, home in self.there if word not in leaving]
        self.search = [word for word in self.search if word not in leaving]
        self.slots = {slot: "gone" if tie in [("to", word) for word in leaving] else tie
                      for slot, tie in self.slots.items() if slot[0] not in leaving}

    def bound(self, word):
        return [tie[1] for slot, tie in self.slots.items() if slot[0] == word and isinstance(tie, tuple)]

    def kept(self, rule):
        firm = [word for word in self.present() if word in self.count or self.libs[word].stays()]
        if rule == "counted":
            lot = self.present()
            while True:
                better = [word for word in lot if word in self.start_list or word in firm or any(
                    word in self.libs[other].needs() or word in self.bound(other) for other in lot if other != word)]
                if better == lot:
                    return lot
                lot = better
        lot = set(self.start_list) | {other for word in firm for other in self.group([word])}
        while rule == "reached":
            more = lot | {mate for word in lot for other in self.bound(word) for mate in self.group([other])}
            if more == lot:
                break
            lot = more
        return lot

    def do(self, deed):
        answer = {"open": self.open, "close": self.close, "call": self.call, "find": self.find}[deed[0]](*deed[1:])
        self.answers.append(answer)
        return answer


def plain_process(world, row):
    plain = Plain(world)
    for deed in row:
        plain.do(deed)
    return plain


def all_plain(world, deeds, most_open=2, most_rows=None):
    """All processes that rows of some deeds lead to: pairs (first row, process), in the order of choices."""
    first = Plain(world)
    found = {first.key(): ((), first)}
    waiting = [first.key()]
    while waiting:
        row, plain = found[waiting.pop(0)]
        if most_rows is not None and len(row) >= most_rows:
            break
        for deed in deeds:
            if deed[0] == "open" and plain.count.get(deed[1], 0) >= most_open:
                continue
            later = plain.copy()
            later.do(deed)
            if later.key() not in found:
                found[later.key()] = ((*row, deed), later)
                waiting.append(later.key())
    return list(found.values())


def random_row(dice, world, most=12):
    """A row of deeds most of which do something."""
    deeds = all_deeds(world)
    plain, row = Plain(world), []
    for _ in range(dice.randint(most // 2, most) if deeds else 0):
        calls = [("call", *slot) for slot in plain.slots]
        closes = [("close", word) for word in sorted(plain.count)]
        opens = [deed for deed in deeds if deed[0] == "open" and deed[1] not in plain.start_list]
        deed = dice.choice(dice.choice([deeds, calls or deeds, calls or deeds, closes or opens or deeds, opens or deeds]))
        plain.do(deed)
        row.append(deed)
    return row


def is_small(world, most):
    """Whether rows lead to so many processes at most."""
    roads = Roads(first_scene(world))
    while not roads.is_done() and len(roads.rows) <= most:
        roads.go_on()
    return len(roads.rows) <= most


def small_worlds(many, most, words=3, least=1):
    """So many worlds at random whose processes are few, but not fewer than some; words is None for busy ones."""
    found, seed = [], 0
    while len(found) < many:
        world = busy_world(seed) if words is None else random_world(seed, words)
        seed += 1
        if is_small(world, most) and not is_small(world, least - 1):
            found.append(world)
    return found


def deeds_elsewhere(world, names=NAMES):
    """All deeds but for those that open who is there from the start."""
    first = Plain(world).start_list
    return [deed for deed in all_deeds(world, names) if deed[0] != "open" or deed[1] not in first]
