"""Rows of bytes read byte by byte: what can come at each place, and the shortest end."""

from linklines.checks import LETTERS, SECTION_SIGNS
from linklines.errors import BadByte
from linklines.objects import ALIGNS, RIGHTS, Archive, Library, Object
from linklines.rowwriting import KINDS, MOST_CELLS, MOST_THINGS, sums_of
from linklines.wordrows import LENGTHS, Ascending, Unlike


class Reader:
    """Reads a row; where it ends too early it goes on by the shortest end. BadByte."""

    def __init__(self, row):
        self.given = row
        self.row = []
        self.lacking = None
        self.any_digits = list(range(256))
        self.further_digits = list(range(1, 256))
        self.section_signs = sorted([ord(sign) for sign in SECTION_SIGNS])
        self.thing = self.read_file()
        if len(row) > len(self.row):
            raise BadByte(len(self.row))

    def read_byte(self, allowed, best):
        """The next byte, one of those allowed; the best one where the row has ended."""
        at = len(self.row)
        if at < len(self.given):
            if self.given[at] not in allowed:
                raise BadByte(at)
            self.row.append(self.given[at])
            return self.given[at]
        if self.lacking is None:
            self.lacking = list(allowed)
        self.row.append(best)
        return best

    def read_choice(self, least, beyond):
        """A byte from the least one on, below another one."""
        return self.read_byte(list(range(least, beyond)), least)

    def read_number(self, least=0, most=None):
        """A number that is told by its digits."""
        number = 0
        weight = 1
        while True:
            allowed = self.digits(number, weight, least, most)
            byte = self.read_byte(allowed, allowed[0])
            number += byte % 128 * weight
            if byte < 128:
                return number
            weight *= 128

    def digits(self, number, weight, least, most):
        """The digits that can come behind those that have told so much; the next one has this weight."""
        if most is None and least == 0:
            return self.any_digits if weight == 1 else self.further_digits
        found = []
        for digit in range(256):
            if digit < 128:
                told = number + digit * weight
                can_be = told >= least and (digit > 0 or weight == 1)
            else:
                # at least a one follows
                told = number + (digit - 128) * weight + 128 * weight
                can_be = True
            if can_be and (most is None or told <= most):
                found.append(digit)
        return found

    def read_integer(self):
        number = self.read_number()
        return number // 2 if number % 2 == 0 else -(number + 1) // 2

    def read_word(self, lot):
        """A word that a lot of words lets come; it is one of them then."""
        length = self.read_part(lot, [(length, (length, "")) for length in LENGTHS])
        word = ""
        for _ in range(length):
            word = word + chr_of(self.read_part(lot, [(ord(sign), (length, word + sign)) for sign in LETTERS]))
        lot.take(word)
        return word

    def read_part(self, lot, ways):
        """A byte of some, each told with the length and the begin of the word that it stands for."""
        if not self.is_over():
            # of a row that goes on only its own byte has to be looked at
            ways = [(byte, way) for byte, way in ways if byte == self.given[len(self.row)]]
        allowed = [byte for byte, (length, begin) in ways if lot.can_begin(length, begin)]
        if not self.is_over():
            return self.read_byte(allowed, 0)
        is_length = ways[0][1][1] == ""
        return self.read_byte(allowed, lot.best_length() if is_length else allowed[0])

    def is_over(self):
        """Whether the row that was given has come to its end."""
        return len(self.row) >= len(self.given)

    def read_file(self):
        # the shortest archive is shorter than any object and any library
        kind = self.read_byte([1, 2, 3], 2)
        if kind == 1:
            thing = self.read_object()
        else:
            thing = self.read_archive() if kind == 2 else self.read_library()
        sums = sums_of(self.row)
        for total in sums:
            self.read_byte([total], total)
        return thing

    def read_archive(self):
        lot = Unlike()
        members = []
        many = self.read_choice(0, MOST_THINGS + 1)
        for _ in range(many):
            word = self.read_word(lot)
            members.append((word, self.read_object()))
        return Archive(members)

    def read_library(self):
        flags = self.read_choice(0, 4)
        marks = {}
        lot = Ascending(self.read_choice(0, MOST_THINGS + 1))
        while lot.owed > 0:
            word = self.read_word(lot)
            marks[word] = self.read_choice(1, 6)
        needed = Unlike()
        many = self.read_choice(0, MOST_THINGS + 1)
        needs = [self.read_word(needed) for _ in range(many)]
        told = [[word for word, mark in marks.items() if mark & bit] for bit in (1, 2, 4)]
        return Library(told[0], told[1], told[2], needs, flags % 2 == 1, flags >= 2)

    def read_object(self):
        kinds = {}
        lot = Ascending(self.read_choice(0, MOST_THINGS + 1))
        while lot.owed > 0:
            word = self.read_word(lot)
            kinds[word] = KINDS[self.read_choice(0, len(KINDS))]
        names = list(kinds)
        many = self.read_choice(0, MOST_THINGS + 1)
        sections = [self.read_section(names) for _ in range(many)]
        told = {}
        for name, kind in kinds.items():
            if kind == "common":
                told[name] = (kind, self.read_number(1))
            elif kind in ("strong", "weak"):
                told[name] = (kind, self.read_spot(sections))
        wants = [name for name in names if kinds[name] == "wanted"]
        asks = [name for name in names if kinds[name] == "asked"]
        return Object(told, wants, asks, sections)

    def read_section(self, names):
        name = ""
        many = self.read_choice(1, 13)
        for _ in range(many):
            name = name + chr_of(self.read_byte(self.section_signs, self.section_signs[0]))
        rights = RIGHTS[self.read_choice(0, len(RIGHTS))]
        align = ALIGNS[self.read_choice(0, len(ALIGNS))]
        if self.read_choice(0, 2) == 1:
            return (name, rights, align, self.read_number())
        many = self.read_number(0, MOST_CELLS)
        return (name, rights, align, [self.read_cell(names) for _ in range(many)])

    def read_cell(self, names):
        if self.read_choice(0, 2 if names else 1) == 0:
            return self.read_integer()
        name = names[self.read_choice(0, len(names))]
        return (name, self.read_integer())

    def read_spot(self, sections):
        if self.read_choice(0, 2 if sections else 1) == 0:
            return None
        number = self.read_choice(0, len(sections))
        body = sections[number][3]
        return (number, self.read_number(0, len(body) if isinstance(body, list) else body))


def chr_of(byte):
    """The sign of a section name that has this number."""
    for sign in SECTION_SIGNS:
        if ord(sign) == byte:
            return sign
    return ""
