"""Reading the files of a line one behind another."""

from linklines.checks import is_list
from linklines.errors import BadLine
from linklines.objects import Archive, Library, Object

RANKS = {"weak": 0, "common": 1, "strong": 2}


class Card:
    """Who can be taken, and what reading has to know of it."""

    def __init__(self, who, thing):
        self.who = who
        self.thing = thing
        self.definitions = thing.names()
        self.wanted = thing.wants()
        self.asked = thing.asks()


def shelf_of(store):
    """A dict from all files to pairs of a sort and what there is to read."""
    return {name: what_to_read(name, store.file(name)) for name in store.files()}


def what_to_read(name, held):
    if isinstance(held, Object):
        return ("object", Card((name, None), held))
    if isinstance(held, Archive):
        return ("archive", [Card((name, word), member) for word, member in held.members()])
    if isinstance(held, Library):
        return ("library", held.tells())
    return ("group", held)


class Reading:
    """What is known once some files have been read."""

    def __init__(self, shelf):
        self.shelf = shelf
        self.taken_cards = {}
        self.causes = {}
        self.standing = {}
        self.doubled = {}
        self.sizes = {}
        self.wanters = {}
        self.askers = {}
        self.leading = {}
        self.loaded = {}

    def branch(self):
        """Another reading that goes on from here by itself."""
        other = Reading(self.shelf)
        other.taken_cards = {who: self.taken_cards[who] for who in self.taken_cards}
        other.causes = {who: self.causes[who] for who in self.causes}
        other.standing = dict(self.standing)
        other.doubled = dict(self.doubled)
        other.sizes = dict(self.sizes)
        other.wanters = dict(self.wanters)
        other.askers = dict(self.askers)
        other.leading = dict(self.leading)
        other.loaded = dict(self.loaded)
        return other

    def read(self, name):
        sort, held = self.shelf[name]
        if sort == "object":
            self.take(held, None)
        elif sort == "archive":
            self.read_archive(held)
        elif sort == "group":
            self.read_group(held)
        else:
            self.read_library(name, held)

    def read_library(self, name, told):
        self.loaded[name] = True
        for word in told:
            self.leading.setdefault(word, name)

    def read_group(self, names):
        took = True
        while took:
            took = False
            for name in names:
                if self.read_archive(self.shelf[name][1]):
                    took = True

    def read_archive(self, cards):
        """Tells whether somebody was taken."""
        took = False
        while self.look_through(cards):
            took = True
        return took

    def look_through(self, cards):
        took = False
        for card in cards:
            cause = None if card.who in self.taken_cards else self.cause_to_take(card)
            if cause is not None:
                self.take(card, cause)
                took = True
        return took

    def cause_to_take(self, card):
        """The first name that lets a member be taken, with its first wanter; None if no name does."""
        for name in card.definitions:
            if name in self.wanters and name not in self.standing and name not in self.leading:
                return (name, self.wanters[name])
        return None

    def take(self, card, cause):
        if card.who in self.taken_cards:
            return
        self.taken_cards[card.who] = card
        self.causes[card.who] = cause
        for name, (kind, worth) in card.definitions.items():
            self.tell(name, kind, worth, card.who)
        for name in card.wanted:
            self.wanters.setdefault(name, card.who)
        for name in card.asked:
            self.askers.setdefault(name, card.who)

    def tell(self, name, kind, worth, who):
        if kind == "common":
            self.sizes[name] = max(self.sizes.get(name, 0), worth)
        if name not in self.standing or RANKS[kind] > RANKS[self.standing[name][0]]:
            self.standing[name] = (kind, who)
        elif kind == "strong":
            self.doubled[name] = True

    def meaning(self, name):
        """What stands for a name at the end of the line, None if it is missing."""
        if name in self.standing:
            return self.standing[name]
        if name in self.leading:
            return ("library", self.leading[name])
        return None if name in self.wanters else ("nothing", None)

    def all_names(self):
        """All names that somebody taken tells, wants or asks for, ascending."""
        return sorted({**self.standing, **self.wanters, **self.askers})

    def missing_names(self):
        return tuple([name for name in sorted(self.wanters) if self.meaning(name) is None])

    def stand(self):
        told = tuple([(name, self.standing[name]) for name in sorted(self.standing)])
        led = tuple([(name, self.leading[name]) for name in sorted(self.leading)])
        return (tuple(sorted(self.taken_cards)), told, led)

    def outcome(self):
        if self.doubled:
            return ("twice", min(list(self.doubled)))
        lacking = self.missing_names()
        if lacking:
            return ("missing", lacking)
        return ("links", tuple([(name, self.meaning(name)) for name in self.all_names()]))


def check_line(store, line):
    if not is_list(line):
        raise BadLine(0)
    for index, name in enumerate(line):
        if not store.has_file(name):
            raise BadLine(index)


def read_line(shelf, line):
    reading = Reading(shelf)
    for name in line:
        reading.read(name)
    return reading
