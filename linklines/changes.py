"""What is otherwise in a program when some of its objects are."""

from linklines.checks import is_integer, is_integer_from, is_list
from linklines.errors import BadChanges, NoSection
from linklines.grids import greatest_of, least_of, rows_between
from linklines.images import aligns_of, laid_from, lengths_of
from linklines.objects import length_of


def face_of(obj):
    names = tuple([(name, face_of_definition(worth)) for name, worth in obj.names().items()])
    sections = tuple([(name, rights, align, not is_list(body)) for name, rights, align, body in obj.sections()])
    return (names, tuple(obj.wants()), tuple(obj.asks()), sections)


def face_of_definition(definition):
    return definition if definition[0] == "common" else (definition[0],)


class Changes:
    """A program, and which of its objects can be otherwise, perhaps with longer sections."""

    def __init__(self, program, rows):
        if not isinstance(rows, dict):
            raise BadChanges(rows)
        for who, growth in rows.items():
            if not program.has_taken(who) or not (growth == "spots" or is_integer_from(0, growth)):
                raise BadChanges(who)
        self._program = program
        self._rows = {tuple(who): growth for who, growth in rows.items()}
        self._parts = [(who, number) for who, number, _ in program.sections()]
        self._aligns = aligns_of(program)
        self._lengths = lengths_of(program)
        self._origin = laid_from(self._aligns, self._lengths)

    def is_inside(self, who):
        return who in self._rows

    def growth_of(self, who):
        """By how much each section of somebody can be longer."""
        growth = self._rows.get(who, "spots")
        return growth if is_integer(growth) else 0

    def growing_parts(self):
        return [part for part in self._parts if is_integer(self._rows.get(part[0], "spots"))]

    def section_number(self, who, number):
        """The number of a section among all of the program; NoSection."""
        if not self._program.has_taken(who) or not is_integer(number) or (tuple(who), number) not in self._parts:
            raise NoSection(who, number)
        return self._parts.index((tuple(who), number))

    def moved_by(self, growths):
        """For each section of the program, and at last for the commons, whether these growths move it."""
        longer = {part: growth for part, growth in zip(self.growing_parts(), growths)}
        lengths = [length + longer.get(part, 0) for part, length in zip(self._parts, self._lengths)]
        places, end = laid_from(self._aligns, lengths)
        moved = [place != before for place, before in zip(places, self._origin[0])]
        return [*moved, end != self._origin[1]]

    def most_growths(self):
        return [self.growth_of(who) for who, _ in self.growing_parts()]

    def all_growths(self):
        mosts = self.most_growths()
        return rows_between([0] * len(mosts), mosts)

    def moving_parts(self):
        moved = self.moved_by(self.most_growths())
        return [part for part, has_moved in zip(self._parts, moved) if has_moved]

    def outside_moved(self, growths):
        """Whether a section outside has moved."""
        moved = self.moved_by(growths)
        return any([has_moved and not self.is_inside(part[0]) for part, has_moved in zip(self._parts, moved)])

    def names_anew(self):
        """The names that do not mean the same place in all changes, as a dict."""
        moving = {part: True for part in self.moving_parts()}
        do_commons_move = self.moved_by(self.most_growths())[-1]
        found = {}
        for name, (kind, who) in self._program.meanings().items():
            if kind == "common" and do_commons_move:
                found[name] = True
            if kind in ("strong", "weak"):
                spot = self._program.object_of(who).names()[name][1]
                if spot is not None and ((who, spot[0]) in moving or self.can_shift(who, spot[0])):
                    found[name] = True
        return found

    def can_shift(self, who, number):
        """Whether a spot can have another offset in a section."""
        length = length_of(self._program.object_of(who).sections()[number])
        return self.is_inside(who) and length + self.growth_of(who) > 0

    def cells_filled_anew(self):
        names = self.names_anew()
        found = []
        for who, number, section in self._program.sections():
            if not self.is_inside(who) and is_list(section[3]):
                indexes = [index for index, cell in enumerate(section[3]) if is_list(cell) and cell[0] in names]
                found.extend([(who, number, index) for index in indexes])
        return found


def growing(changes):
    return changes.growing_parts()


def moving(changes):
    return changes.moving_parts()


def least_growths(changes, who, number):
    at = changes.section_number(who, number)
    return least_of({growths: changes.moved_by(growths)[at] for growths in changes.all_growths()})


def unseen(changes):
    return greatest_of({growths: not changes.outside_moved(growths) for growths in changes.all_growths()})


def filled_anew(changes):
    return changes.cells_filled_anew()
