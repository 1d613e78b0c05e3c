"""Programs: what a line is linked to."""

from linklines.checks import is_row_of
from linklines.errors import Missing, NotTaken, Twice
from linklines.reading import check_line, read_line, shelf_of


class Program:
    """What linked makes of a line that links."""

    def __init__(self, reading):
        meanings = {name: reading.meaning(name) for name in reading.all_names()}
        named = {who: True for kind, who in meanings.values() if kind == "library"}
        self._objects = {who: reading.taken_cards[who].thing for who in reading.taken_cards}
        self._reasons = {who: reading.causes[who] for who in reading.causes}
        self._meanings = meanings
        self._libraries = [name for name in reading.loaded if name in named]
        self._commons = {name: reading.sizes[name] for name in meanings if meanings[name][0] == "common"}

    def __eq__(self, other):
        if not isinstance(other, Program) or list(self._objects) != list(other._objects):
            return False
        if self._objects != other._objects or self._reasons != other._reasons:
            return False
        if self._meanings != other._meanings or self._libraries != other._libraries:
            return False
        return self._commons == other._commons

    def taken(self):
        return list(self._objects)

    def meanings(self):
        return dict(self._meanings)

    def libraries(self):
        return list(self._libraries)

    def commons(self):
        return dict(self._commons)

    def sections(self):
        told = []
        for who, held in self._objects.items():
            for number, section in enumerate(held.sections()):
                told.append((who, number, section))
        return told

    def object_of(self, who):
        if not self.has_taken(who):
            raise NotTaken(who)
        return self._objects[tuple(who)]

    def reason(self, who):
        if not self.has_taken(who):
            raise NotTaken(who)
        return self._reasons[tuple(who)]

    def has_taken(self, who):
        if not is_row_of(2, who) or not isinstance(who[0], str):
            return False
        return (who[1] is None or isinstance(who[1], str)) and tuple(who) in self._objects


def linked(store, line):
    check_line(store, line)
    return program_of_line(shelf_of(store), line)


def program_of_line(shelf, line):
    """The program of a line of what there is to read; Twice, Missing."""
    reading = read_line(shelf, line)
    if reading.doubled:
        raise Twice(min(list(reading.doubled)))
    lacking = reading.missing_names()
    if lacking:
        raise Missing(lacking)
    return Program(reading)


def links(store, line):
    check_line(store, line)
    return read_line(shelf_of(store), line).outcome()[0] == "links"
