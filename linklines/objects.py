"""Objects, archives and libraries: what the files of a store are."""

from linklines.checks import first_bad_word, frozen
from linklines.checks import is_integer, is_integer_from, is_list, is_row_of, is_section_name, is_word
from linklines.errors import BadAsks, BadMark, BadMembers, BadNames, BadNeeds
from linklines.errors import BadSections, BadSpot, BadTells, BadWants

RIGHTS = ("r", "rw", "rx")
ALIGNS = (1, 2, 4, 8, 16, 32, 64)


def is_spot(thing):
    if thing is None:
        return True
    return is_row_of(2, thing) and is_integer_from(0, thing[0]) and is_integer_from(0, thing[1])


def is_definition(thing):
    if not is_row_of(2, thing):
        return False
    if thing[0] == "common":
        return is_integer_from(1, thing[1])
    return thing[0] in ("strong", "weak") and is_spot(thing[1])


def is_reference(thing):
    return is_row_of(2, thing) and is_word(thing[0]) and is_integer(thing[1])


def is_body(thing):
    if is_list(thing):
        return all([is_integer(cell) or is_reference(cell) for cell in thing])
    return is_integer_from(0, thing)


def is_section(thing):
    if not is_row_of(4, thing):
        return False
    name, rights, align, body = thing
    if not is_section_name(name) or rights not in RIGHTS:
        return False
    return is_integer(align) and align in ALIGNS and is_body(body)


def length_of(section):
    """How many cells a section has, zeros among them."""
    body = section[3]
    return len(body) if is_list(body) else body


def refers_beyond(section, known):
    """Whether a section has a reference to a name that is not known."""
    if not is_list(section[3]):
        return False
    return any([is_list(cell) and cell[0] not in known for cell in section[3]])


def check_names(names):
    if not isinstance(names, dict):
        raise BadNames(None)
    for name, definition in names.items():
        if not is_word(name) or not is_definition(definition):
            raise BadNames(name)


def check_wants(wants, told):
    bad = first_bad_word(wants, told)
    if bad is not None:
        raise BadWants(bad)


def check_asks(asks, told, wants):
    bad = first_bad_word(asks, [*told, *wants])
    if bad is not None:
        raise BadAsks(bad)


def check_sections(sections, known):
    if not is_list(sections):
        raise BadSections(0)
    for index, section in enumerate(sections):
        if not is_section(section) or refers_beyond(section, known):
            raise BadSections(index)


def check_spots(names, sections):
    for name in sorted(names):
        kind, spot = names[name]
        if kind == "common" or spot is None:
            continue
        number, offset = spot
        if number >= len(sections) or offset > length_of(sections[number]):
            raise BadSpot(name)


class Object:
    """What a file, or a member of an archive, tells, wants and asks for, and its sections."""

    def __init__(self, names, wants=(), asks=(), sections=()):
        check_names(names)
        check_wants(wants, names)
        check_asks(asks, names, wants)
        check_sections(sections, [*names, *wants, *asks])
        check_spots(names, sections)
        self._names = {name: frozen(names[name]) for name in sorted(names)}
        self._wants = sorted(wants)
        self._asks = sorted(asks)
        self._sections = frozen(sections)

    def __eq__(self, other):
        if not isinstance(other, Object):
            return False
        if self._names != other._names or self._wants != other._wants:
            return False
        return self._asks == other._asks and self._sections == other._sections

    def names(self):
        return dict(self._names)

    def wants(self):
        return list(self._wants)

    def asks(self):
        return list(self._asks)

    def sections(self):
        return list(self._sections)


def check_members(members):
    if not is_list(members):
        raise BadMembers(0)
    seen = {}
    for index, member in enumerate(members):
        if not is_row_of(2, member) or not is_word(member[0]) or not isinstance(member[1], Object):
            raise BadMembers(index)
        if member[0] in seen:
            raise BadMembers(index)
        seen[member[0]] = True


class Archive:
    """Members that are taken only where they are wanted."""

    def __init__(self, members):
        check_members(members)
        self._members = [(word, held) for word, held in members]

    def __eq__(self, other):
        return isinstance(other, Archive) and self._members == other._members

    def members(self):
        return list(self._members)


def check_library(tells, wants, asks, needs):
    bad = first_bad_word(tells, ())
    if bad is not None:
        raise BadTells(bad)
    check_wants(wants, ())
    check_asks(asks, (), wants)
    bad = first_bad_word(needs, ())
    if bad is not None:
        raise BadNeeds(bad)


def check_mark(thing):
    if not isinstance(thing, bool):
        raise BadMark(thing)


class Library:
    """What is loaded beside programs."""

    def __init__(self, tells, wants=(), asks=(), needs=(), own_first=False, stays=False):
        check_library(tells, wants, asks, needs)
        check_mark(own_first)
        check_mark(stays)
        self._tells = sorted(tells)
        self._wants = sorted(wants)
        self._asks = sorted(asks)
        self._needs = list(needs)
        self._own_first = own_first
        self._stays = stays

    def __eq__(self, other):
        if not isinstance(other, Library):
            return False
        if self._tells != other._tells or self._wants != other._wants or self._asks != other._asks:
            return False
        if self._needs != other._needs:
            return False
        return self._own_first == other._own_first and self._stays == other._stays

    def tells(self):
        return list(self._tells)

    def wants(self):
        return list(self._wants)

    def asks(self):
        return list(self._asks)

    def needs(self):
        return list(self._needs)

    def own_first(self):
        return self._own_first

    def stays(self):
        return self._stays
