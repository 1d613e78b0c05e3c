"""What a house has made, with what it was made of."""

from linklines.holes import plain_face
from linklines.objects import Archive, Object
from linklines.programs import program_of_line
from linklines.reading import what_to_read
from linklines.rowforms import file_row


def object_face(obj):
    """All of an object by which it can change what a line leads to."""
    sizes = tuple([(name, worth) for name, (kind, worth) in obj.names().items() if kind == "common"])
    return (plain_face(obj), tuple(obj.asks()), sizes)


def thing_face(held):
    """What an outcome hangs on: of an object and an archive their faces, all of a library and of a group."""
    if isinstance(held, Object):
        return ("object", object_face(held))
    if isinstance(held, Archive):
        return ("archive", tuple([(word, object_face(member)) for word, member in held.members()]))
    return ("other", held)


def made_of(line, things):
    return (line, [(name, thing_face(things[name])) for name in sorted(things)])


def program_made(line, things):
    return program_of_line({name: what_to_read(name, held) for name, held in things.items()}, line)


def object_taken(things, who):
    held = things[who[0]]
    return held if who[1] is None else dict(held.members())[who[1]]


class Makes:
    """The last that was made for each pair (what, name), with what it was of, and the pairs made since asked last."""

    def __init__(self, kept_by, fresh):
        self.kept_by = kept_by
        self.fresh = fresh

    def with_one(self, what, name, origin, thing):
        kept_by = {pair: self.kept_by[pair] for pair in self.kept_by}
        kept_by[(what, name)] = (origin, thing)
        return Makes(kept_by, (*self.fresh, (what, name)))

    def is_made(self, what, name, origin):
        return (what, name) in self.kept_by and self.kept_by[(what, name)][0] == origin

    def with_outcome(self, name, line, things):
        origin = made_of(line, things)
        if self.is_made("outcome", name, origin):
            return self
        return self.with_one("outcome", name, origin, program_made(line, things))

    def with_program(self, name, line, things):
        makes = self.with_outcome(name, line, things)
        taken = makes.outcome_of(name).taken()
        origin = (made_of(line, things), [object_taken(things, who) for who in taken])
        if makes.is_made("program", name, origin):
            return makes
        return makes.with_one("program", name, origin, program_made(line, things))

    def with_row(self, name, held):
        if self.is_made("row", name, held):
            return self
        return self.with_one("row", name, held, file_row(held))

    def outcome_of(self, name):
        return self.kept_by[("outcome", name)][1]

    def program_of(self, name):
        return self.kept_by[("program", name)][1]

    def row_of(self, name):
        return list(self.kept_by[("row", name)][1])
