"""Courses read plainly after the document."""

import random

from linklines.starts import Starts
from linklines.worlds import World
from linklines.objects import Library
from tests.world_tools import RULES, Plain, is_small, random_world, slots_of


def example_60():
    world = World({"m": Library([], [], [], ["a"]), "a": Library(["f"], ["g"], [], ["b"]),
                   "b": Library(["g"], [], ["f"], ["a"])}, ["m"], "reached")
    return Starts(world, {"a": ["g"], "b": ["f"]}, {"a": ["g"]})


def random_calls(dice, world, chance=0.6):
    made = {}
    for word, library in world.libraries().items():
        slots = slots_of(library)
        if slots and dice.random() < chance:
            made[word] = [dice.choice(slots) for _ in range(dice.randint(0, 3))]
    return made


def starts_over(world, seed):
    dice = random.Random(seed)
    return Starts(world, random_calls(dice, world), random_calls(dice, world))


def random_starts(seed, words=3):
    return starts_over(random_world(seed, words), seed)


def small_starts(many, most, words=3, least=1):
    found, seed = [], 0
    while len(found) < many:
        starts = random_starts(seed, words)
        seed += 1
        if is_small(starts.world(), most) and not is_small(starts.world(), least - 1):
            found.append(starts)
    return found


def ring_starts(seed):
    """Two libraries that need one another, or one the other, and call one another; perhaps one more."""
    dice = random.Random(seed)
    needs = dice.choice([("b", "a"), ("b", "a"), ("b", ""), ("", "a")])
    made = {"a": Library(["f"], ["g"] if dice.random() < 0.7 else ["f"], [], list(needs[0])),
            "b": Library(["g"], ["f"] if dice.random() < 0.7 else [], [], list(needs[1]))}
    start = []
    if dice.random() < 0.5:
        made["m"] = Library([], [], ["f"], [dice.choice("ab")] if dice.random() < 0.3 else [])
        start = ["m"]
    world = World(made, start, dice.choice(RULES))
    return Starts(world, random_calls(dice, world, 0.7), random_calls(dice, world, 0.7))


def small_rings(many, most):
    found, seed = [], 0
    while len(found) < many:
        starts = ring_starts(seed)
        seed += 1
        if is_small(starts.world(), most):
            found.append(starts)
    return found


class PlainCourse(Plain):
    """A course, done step by step as the document words it."""

    def __init__(self, starts):
        Plain.__init__(self, starts.world())
        self.starts = starts
        self.how = {word: "unbegun" for word in self.present()}
        self.when = []
        self.events = []
        self.begin(starts.world().start(), self.present())

    def copy(self):
        other = Plain.copy(self)
        other.how, other.when, other.events = dict(self.how), list(self.when), list(self.events)
        return other

    def key(self):
        return Plain.key(self) + repr(self.when)

    def needs_order(self, firsts, newcomers):
        order, met = [], []

        def go(word):
            if word in newcomers and word not in met:
                met.append(word)
                for need in self.libs[word].needs():
                    go(need)
                order.append(word)

        for word in firsts:
            go(word)
        return order

    def begin(self, firsts, newcomers):
        for word in self.needs_order(firsts, newcomers):
            self.events.append(("begins", word))
            self.how[word] = "half"
            for name in self.starts.begins()[word]:
                self.events.append(("first", word, name, self.told(self.call(word, name))))
            self.how[word] = "begun"
            self.when.append(word)
            self.events.append(("begun", word))

    def told(self, answer):
        return (*answer, self.how[answer[1]]) if isinstance(answer, tuple) else answer

    def step(self, deed):
        """Does a deed; tells the events that it brings."""
        before = len(self.events)
        if deed[0] == "open":
            ahead = self.present()
            answer = self.do(deed)
            newcomers = [word for word in self.present() if word not in ahead]
            for word in newcomers:
                self.how[word] = "unbegun"
            self.begin([deed[1]], newcomers)
        elif deed[0] == "close":
            leaving = self.close_begin(deed[1])
            answer = "not open" if leaving is None else "closed"
            for word in [word for word in reversed(self.when) if word in (leaving or [])]:
                self.events.append(("ends", word))
                for name in self.starts.ends()[word]:
                    self.events.append(("last", word, name, self.told(self.call(word, name))))
                self.how[word] = "ended"
                self.events.append(("ended", word))
            self.leave(leaving or [])
            self.when = [word for word in self.when if word not in (leaving or [])]
            self.answers.append(answer)
        else:
            answer = self.do(deed)
        shown = self.told(answer) if deed[0] == "call" else answer
        self.events.append(("deed", deed, shown))
        return self.events[before:]


def plain_course(starts, row):
    plain = PlainCourse(starts)
    for deed in row:
        plain.step(deed)
    return plain


def is_call_of(events, hows):
    """Whether some call among events meets another library that stands so."""
    for event in events:
        if event[0] in ("first", "last") and isinstance(event[3], tuple):
            if event[3][2] in hows and event[3][1] != event[1]:
                return True
        if event[0] == "deed" and event[1][0] == "call" and isinstance(event[2], tuple):
            if event[2][2] in hows and event[2][1] != event[1][1]:
                return True
    return False
