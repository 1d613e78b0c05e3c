"""Files written as rows of bytes."""

from linklines.checks import is_list
from linklines.errors import NoSort, TooLarge
from linklines.objects import RIGHTS, Archive, Library, Object

KINDS = ("wanted", "asked", "strong", "weak", "common")
MOST_THINGS = 40
MOST_CELLS = 400


def number_row(number):
    """The digits to the base 128, low ones first, 128 put to each but the last."""
    row = []
    while number >= 128:
        row.append(number % 128 + 128)
        number = number // 128
    return [*row, number]


def integer_row(number):
    return number_row(2 * number if number >= 0 else -2 * number - 1)


def text_row(text):
    return [len(text), *[ord(sign) for sign in text]]


def check_many(things, most):
    if len(things) > most:
        raise TooLarge()


def kinds_of(obj):
    """The dict, ascending, from all names of an object to their kinds."""
    kinds = {name: definition[0] for name, definition in obj.names().items()}
    kinds.update({name: "wanted" for name in obj.wants()})
    kinds.update({name: "asked" for name in obj.asks()})
    return {name: kinds[name] for name in sorted(kinds)}


def object_row(obj):
    kinds = kinds_of(obj)
    check_many(kinds, MOST_THINGS)
    row = [len(kinds)]
    for name, kind in kinds.items():
        row.extend([*text_row(name), KINDS.index(kind)])
    check_many(obj.sections(), MOST_THINGS)
    row.append(len(obj.sections()))
    for section in obj.sections():
        row.extend(section_row(section, list(kinds)))
    for definition in obj.names().values():
        row.extend(definition_row(definition))
    return row


def section_row(section, names):
    name, rights, align, body = section
    row = [*text_row(name), RIGHTS.index(rights), align.bit_length() - 1]
    if not is_list(body):
        return [*row, 1, *number_row(body)]
    check_many(body, MOST_CELLS)
    row.extend([0, *number_row(len(body))])
    for cell in body:
        row.extend([1, names.index(cell[0]), *integer_row(cell[1])] if is_list(cell) else [0, *integer_row(cell)])
    return row


def definition_row(definition):
    kind, worth = definition
    if kind == "common":
        return number_row(worth)
    return [0] if worth is None else [1, *number_row(worth[0]), *number_row(worth[1])]


def library_row(library):
    marks = {name: 1 for name in library.tells()}
    for name in library.wants():
        marks[name] = marks.get(name, 0) + 2
    for name in library.asks():
        marks[name] = marks.get(name, 0) + 4
    check_many(marks, MOST_THINGS)
    check_many(library.needs(), MOST_THINGS)
    row = [(1 if library.own_first() else 0) + (2 if library.stays() else 0), len(marks)]
    for name in sorted(marks):
        row.extend([*text_row(name), marks[name]])
    row.append(len(library.needs()))
    for name in library.needs():
        row.extend(text_row(name))
    return row


def archive_row(archive):
    check_many(archive.members(), MOST_THINGS)
    row = [len(archive.members())]
    for word, member in archive.members():
        row.extend([*text_row(word), *object_row(member)])
    return row


def sums_of(row):
    """The two sums that end a row, of the bytes ahead of them."""
    places = [place * byte for place, byte in enumerate(row, 1)]
    return [sum(row) % 256, sum(places) % 256]


def written(thing):
    """The row of a file; NoSort, TooLarge."""
    if isinstance(thing, Object):
        row = [1, *object_row(thing)]
    elif isinstance(thing, Archive):
        row = [2, *archive_row(thing)]
    elif isinstance(thing, Library):
        row = [3, *library_row(thing)]
    else:
        raise NoSort(thing)
    return [*row, *sums_of(row)]
