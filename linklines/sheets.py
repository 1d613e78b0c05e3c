"""Sheets: sections with references to one another."""

from linklines.checks import LETTERS, ascending, frozen, is_integer, is_list, is_row_of, is_word
from linklines.errors import BadApart, BadBody, NoBody
from linklines.objects import length_of
from linklines.programs import linked


def is_cell(thing, known):
    if is_integer(thing):
        return True
    return is_row_of(2, thing) and is_word(thing[0]) and thing[0] in known and is_integer(thing[1])


class Sheet:
    """A dict of sections: lists of integers and of references to sections."""

    def __init__(self, bodies):
        if not isinstance(bodies, dict):
            raise BadBody(None)
        for name, cells in bodies.items():
            if not is_word(name) or not is_list(cells) or not all([is_cell(cell, bodies) for cell in cells]):
                raise BadBody(name)
        self._bodies = {name: frozen(cells) for name, cells in ascending(bodies).items()}

    def __eq__(self, other):
        return isinstance(other, Sheet) and self._bodies == other._bodies

    def bodies(self):
        return {name: list(cells) for name, cells in self._bodies.items()}

    def body(self, name):
        self.check_section(name)
        return list(self._bodies[name])

    def section_names(self):
        return list(self._bodies)

    def check_section(self, name):
        if not is_word(name) or name not in self._bodies:
            raise NoBody(name)

    def check_apart(self, apart):
        if not is_list(apart):
            raise BadApart(0)
        seen = {}
        for index, thing in enumerate(apart):
            if not is_word(thing) or thing not in self._bodies or thing in seen:
                raise BadApart(index)
            seen[thing] = True


def word_of_number(number):
    """The words "a" to "z", "aa", "ab" and so on, by number."""
    word = LETTERS[number % 26]
    while number >= 26:
        number = number // 26 - 1
        word = LETTERS[number % 26] + word
    return word


def sheet_of(store, line):
    program = linked(store, line)
    words = {}
    for who, number, _ in program.sections():
        words[(who, number)] = word_of_number(len(words))
    targets = {name: spot_meant(program, name, meaning) for name, meaning in program.meanings().items()}
    bodies = {}
    for who, number, section in program.sections():
        cells = section[3] if is_list(section[3]) else [0] * length_of(section)
        bodies[words[(who, number)]] = [cell_led(cell, targets, words) for cell in cells]
    return Sheet(bodies)


def spot_meant(program, name, meaning):
    """The triple (who, section, offset) that a name means, None if it means no spot."""
    kind, who = meaning
    if kind not in ("strong", "weak"):
        return None
    spot = program.object_of(who).names()[name][1]
    return None if spot is None else (who, spot[0], spot[1])


def cell_led(cell, targets, words):
    if not is_list(cell):
        return cell
    target = targets[cell[0]]
    if target is None:
        return cell[1]
    return (words[(target[0], target[1])], target[2] + cell[1])
