"""Worlds of libraries that are opened, called and closed."""

from linklines.checks import ascending, first_not_among, is_word
from linklines.errors import BadKeeping, BadLibraries, BadStart, NoLibrary, NoSlot
from linklines.objects import Library

RULES = ("loose", "counted", "reached")


def check_libraries(libraries):
    if not isinstance(libraries, dict):
        raise BadLibraries(None)
    for name, library in libraries.items():
        if not is_word(name) or not isinstance(library, Library):
            raise BadLibraries(name)
    for name, library in libraries.items():
        if not all([word in libraries for word in library.needs()]):
            raise BadLibraries(name)


def group_of(libraries, names):
    """These libraries, then what they need, then what that needs, and so on, each once."""
    group = list(names)
    at = 0
    while at < len(group):
        needed = libraries[group[at]].needs()
        for word in needed:
            if word not in group:
                group.append(word)
        at += 1
    return tuple(group)


class World:
    """Libraries, those that are there from the start, and the rule by which others are kept."""

    def __init__(self, libraries, start, rule):
        check_libraries(libraries)
        bad = first_not_among(start, libraries)
        if bad is not None:
            raise BadStart(bad)
        if rule not in RULES:
            raise BadKeeping(rule)
        self._libraries = ascending(libraries)
        self._begin = list(start)
        self._keeping = rule
        self._groups = {name: group_of(libraries, [name]) for name in self._libraries}
        self._start_list = group_of(libraries, start)
        self._slots = {}
        self._places = {}
        self._told = {}
        self._asked = {}
        self._own_first = {}
        self._stays = {}
        self._needs = {}
        # what all rows of deeds lead to hangs on the world alone: it is found once, as far as it is asked for
        self.roads = None
        self.track = None
        self.known_answers = {}
        for name, library in self._libraries.items():
            self._slots[name] = tuple(sorted([*library.wants(), *library.asks()]))
            self._places[name] = {slot: place for place, slot in enumerate(self._slots[name])}
            self._told[name] = {word: True for word in library.tells()}
            self._asked[name] = {word: True for word in library.asks()}
            self._own_first[name] = library.own_first()
            self._stays[name] = library.stays()
            self._needs[name] = tuple(library.needs())

    def __eq__(self, other):
        if not isinstance(other, World):
            return False
        if self._libraries != other._libraries or self._begin != other._begin:
            return False
        return self._keeping == other._keeping

    def libraries(self):
        return dict(self._libraries)

    def start(self):
        return list(self._begin)

    def rule(self):
        return self._keeping

    def group(self, name):
        self.check_library(name)
        return list(self._groups[name])

    def check_library(self, name):
        if not self.is_library(name):
            raise NoLibrary(name)

    def check_slot(self, library, name):
        self.check_library(library)
        if not self.is_slot(library, name):
            raise NoSlot(name)

    def is_library(self, thing):
        return is_word(thing) and thing in self._libraries

    def is_slot(self, library, thing):
        return thing in self._slots[library]

    def names(self):
        """All libraries, ascending."""
        return list(self._libraries)

    def group_told(self, name):
        """The group of a library as a tuple, for homes."""
        return self._groups[name]

    def start_list(self):
        return self._start_list

    def slots_of(self, name):
        return self._slots[name]

    def told_by(self, name):
        return list(self._told[name])

    def slot_place(self, library, name):
        """The number of a slot among those of its library."""
        return self._places[library][name]

    def free_slots(self, name):
        return ("free",) * len(self._slots[name])

    def later_ones(self):
        """The libraries, ascending, that are not of the start list."""
        return [name for name in self._libraries if name not in self._start_list]

    def openings(self, name):
        """The deeds that open a library, ascending."""
        return [("open", name, when, where) for when in ("lazy", "now") for where in ("all", "own")]

    def needs_of(self, name):
        return self._needs[name]

    def does_stay(self, name):
        return self._stays[name]

    def does_ask(self, library, name):
        return name in self._asked[library]

    def is_own(self, library, name):
        """Whether a library takes itself first for a name."""
        return self._own_first[library] and name in self._told[library]

    def first_teller(self, among, name):
        """The first one of some libraries that tells a name, None if none does."""
        for library in among:
            if name in self._told[library]:
                return library
        return None
