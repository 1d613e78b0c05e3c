"""Images: where a program's sections stand, and all its cells."""

from linklines.checks import is_list, is_word
from linklines.errors import NoName
from linklines.objects import length_of
from linklines.plans import multiple_from


def laid_from(aligns, lengths):
    """The least places of things one behind another, and the end of the last one."""
    places = []
    end = 0
    for align, length in zip(aligns, lengths):
        places.append(multiple_from(end, align))
        end = places[-1] + length
    return (places, end)


def aligns_of(program):
    return [entry[2][2] for entry in program.sections()]


def lengths_of(program):
    return [length_of(entry[2]) for entry in program.sections()]


class Image:
    """A program's sections laid one behind another, and the commons behind them."""

    def __init__(self, program):
        self._program = program
        self._sections = []
        self._place_of = {}
        places, end = laid_from(aligns_of(program), lengths_of(program))
        for (who, number, section), place in zip(program.sections(), places):
            self._sections.append((who, number, place, length_of(section)))
            self._place_of[(who, number)] = place
        self._meant = {}
        for name, size in program.commons().items():
            self._meant[name] = end
            end += size
        for name, meaning in program.meanings().items():
            self._meant[name] = self.meant_place(name, meaning)
        self._cells = [0] * end
        for (who, _, section), place in zip(program.sections(), places):
            if is_list(section[3]):
                self._cells[place:place + len(section[3])] = [self.filled(cell) for cell in section[3]]

    def __eq__(self, other):
        return isinstance(other, Image) and self._program == other._program and self._cells == other._cells

    def meant_place(self, name, meaning):
        kind, who = meaning
        if kind == "common":
            return self._meant[name]
        if kind in ("nothing", "library"):
            return 0 if kind == "nothing" else None
        spot = self._program.object_of(who).names()[name][1]
        return 0 if spot is None else self._place_of[(who, spot[0])] + spot[1]

    def filled(self, cell):
        if not is_list(cell):
            return cell
        place = self._meant[cell[0]]
        return cell if place is None else place + cell[1]

    def sections(self):
        return list(self._sections)

    def place(self, name):
        if not is_word(name) or name not in self._meant:
            raise NoName(name)
        return self._meant[name]

    def cells(self):
        return list(self._cells)


def anew(old, new):
    before, after = old.cells(), new.cells()
    many = min(len(before), len(after))
    unlike = [place for place in range(many) if before[place] != after[place]]
    return unlike + list(range(many, max(len(before), len(after))))
