"""A house: files, groups, holes and lines by their names, and what comes of the lines."""

from linklines.checks import frozen, is_list, is_word
from linklines.errors import BadKind, BadName, BadThing, HasHole, Lacks, Needed, NoName, NotOf, Nothing, NotWanted
from linklines.fillings import Fillings
from linklines.holes import Hole
from linklines.keptmakes import Makes
from linklines.mending import all_mends
from linklines.objects import Archive, Library, Object
from linklines.stores import Store

KINDS = ("file", "group", "hole", "line")


def is_of_kind(kind, thing):
    if kind == "file":
        return isinstance(thing, (Object, Archive, Library))
    if kind == "hole":
        return isinstance(thing, Hole)
    if not is_list(thing) or not all([is_word(word) for word in thing]):
        return False
    return kind == "line" or len(thing) > 0


def can_stand_in(kind, word, things):
    """Whether a group or a line can name what has a word."""
    if kind == "group":
        return isinstance(things[word][1], Archive)
    return things[word][0] != "line"


def is_refused(things, name):
    """Whether a thing names what is not there or cannot stand in it."""
    kind, held = things[name]
    if kind not in ("group", "line"):
        return False
    return not all([word in things and can_stand_in(kind, word, things) for word in held])


class House:
    """Things by their names, and the deeds by which they have come and gone."""

    def __init__(self):
        # all of these are put in the place of one another, never changed: so a trial can take all back
        self._things = {}
        self._done = ()
        self._undone = ()
        self._makes = Makes({}, ())

    def __eq__(self, other):
        return isinstance(other, House) and self._things == other._things

    def __len__(self):
        return len(self._done)

    def put(self, name, kind, thing):
        if not is_word(name):
            raise BadName(name)
        if kind not in KINDS:
            raise BadKind(kind)
        if not is_of_kind(kind, thing):
            raise BadThing(thing)
        things = {**self._things, name: (kind, frozen(thing))}
        if kind in ("group", "line"):
            check_named(things, kind, thing)
        check_needed(things, name)
        self.do_deed(("put", name, kind, frozen(thing)), things)

    def drop(self, name):
        self.check_name(name)
        things = {word: held for word, held in self._things.items() if word != name}
        check_needed(things, name)
        self.do_deed(("drop", name), things)

    def do_deed(self, deed, things):
        self._done = (*self._done, (deed, self._things))
        self._undone = ()
        self._things = things

    def check_name(self, name):
        if not is_word(name) or name not in self._things:
            raise NoName(name)

    def names(self):
        return {name: self._things[name][0] for name in sorted(self._things)}

    def held(self, name):
        self.check_name(name)
        return self._things[name][1]

    def store(self):
        return Store({name: held for name, (kind, held) in self._things.items() if kind in ("file", "group")})

    def line_of(self, name):
        """The line that has a name; NoName, NotOf."""
        self.check_name(name)
        if self._things[name][0] != "line":
            raise NotOf(name)
        return self._things[name][1]

    def whole_line(self, name):
        """The line that has a name, if there is no hole in it; NoName, NotOf, HasHole."""
        line = self.line_of(name)
        for word in line:
            if self._things[word][0] == "hole":
                raise HasHole(word)
        return line

    def things_in(self, line):
        """The dict from all that a line names, also by way of groups, to what is kept."""
        groups = [self._things[word][1] for word in line if self._things[word][0] == "group"]
        return {word: self._things[word][1] for words in [line, *groups] for word in words}

    def program(self, name):
        line = self.whole_line(name)
        self._makes = self._makes.with_program(name, line, self.things_in(line))
        return self._makes.program_of(name)

    def told(self, name):
        line = self.whole_line(name)
        self._makes = self._makes.with_outcome(name, line, self.things_in(line))
        program = self._makes.outcome_of(name)
        return (program.taken(), program.meanings(), program.libraries(), program.commons())

    def bytes_of(self, name):
        self.check_name(name)
        kind, held = self._things[name]
        if kind != "file":
            raise NotOf(name)
        self._makes = self._makes.with_row(name, held)
        return self._makes.row_of(name)

    def verdicts(self, name):
        line = self.line_of(name)
        return Fillings(line, self.things_in(line)).first_verdicts()

    def meanings_of(self, name, word):
        line = self.line_of(name)
        things = self.things_in(line)
        objects = [held for held in things.values() if isinstance(held, Object)]
        if not any([word in obj.wants() for obj in objects]):
            raise NotWanted(word)
        return Fillings(line, things, word).first_meanings()

    def deciders(self, name):
        line = self.line_of(name)
        return Fillings(line, self.things_in(line)).least_deciding()

    def leaving_open(self, name):
        line = self.line_of(name)
        return Fillings(line, self.things_in(line)).greatest_open()

    def made(self):
        told = list(self._makes.fresh)
        self._makes = Makes(self._makes.kept_by, ())
        return told

    def mends(self, name):
        return all_mends(self.store(), self.whole_line(name))

    def undo(self):
        if not self._done:
            raise Nothing()
        deed, things = self._done[-1]
        self._undone = (*self._undone, (deed, self._things))
        self._done = self._done[:-1]
        self._things = things
        return deed

    def again(self):
        if not self._undone:
            raise Nothing()
        deed, things = self._undone[-1]
        self._done = (*self._done, (deed, self._things))
        self._undone = self._undone[:-1]
        self._things = things
        return deed

    def copy(self):
        other = House()
        other._things = self._things
        other._done = self._done
        other._undone = self._undone
        other._makes = self._makes
        return other

    def trial(self, work):
        things, done, undone, makes = self._things, self._done, self._undone, self._makes
        try:
            return work(self)
        finally:
            self._things, self._done, self._undone, self._makes = things, done, undone, makes


def check_named(things, kind, words):
    for word in words:
        if word not in things:
            raise Lacks(word)
    for word in words:
        if not can_stand_in(kind, word, things):
            raise NotOf(word)


def check_needed(things, name):
    for other in sorted(things):
        # all stood well ahead of the deed: who does not now names what it changes
        if is_refused(things, other):
            raise Needed(name, other)


def house_of(things):
    """The house that keeps these pairs (kind, thing) by their names; no deed stands in it."""
    house = House()
    house._things = dict(things)
    return house
