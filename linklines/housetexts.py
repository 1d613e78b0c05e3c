"""Houses as texts, there and back."""

from linklines.checks import is_word
from linklines.errors import BadByte, BadText
from linklines.holes import Hole, are_sorts
from linklines.houses import house_of, is_of_kind, is_refused
from linklines.rowforms import file_row, read_row


def write_house(house):
    return "".join([thing_text(name, kind, house.held(name)) for name, kind in house.names().items()])


def thing_text(name, kind, held):
    words = [kind, name]
    if kind == "file":
        words.extend([str(byte) for byte in file_row(held)])
    elif kind == "hole":
        words.append("any" if held.others() else "none")
        words.extend([word + "=" + "+".join(sorts) for word, sorts in held.sorts().items()])
    else:
        words.extend(held)
    return " ".join(words) + "\n"


def thing_read(kind, words):
    """What the words behind a kind and a name tell, None if they tell nothing of this kind."""
    if kind == "file":
        return file_read(words)
    if kind == "hole":
        return hole_read(words)
    held = tuple(words)
    return held if kind in ("group", "line") and is_of_kind(kind, held) else None


def file_read(words):
    figures = {str(byte): byte for byte in range(256)}
    if not all([word in figures for word in words]):
        return None
    try:
        return read_row([figures[word] for word in words])
    except BadByte:
        return None


def hole_read(words):
    if not words or words[0] not in ("any", "none"):
        return None
    sorts = {}
    for text in words[1:]:
        word, sign, told = text.partition("=")
        if sign == "" or not is_word(word) or not are_sorts(told.split("+")):
            return None
        sorts[word] = told.split("+")
    return Hole(sorts, words[0] == "any")


def read_house(text):
    if not isinstance(text, str):
        raise BadText(0)
    things = {}
    last = ""
    lines = text.split("\n")
    for index, line in enumerate(lines[:-1]):
        words = line.split(" ")
        held = thing_read(words[0], words[2:]) if len(words) > 1 and is_word(words[1]) else None
        # what is told in another form than it is written is of no such form
        if held is None or words[1] <= last or thing_text(words[1], words[0], held) != line + "\n":
            raise BadText(index)
        last = words[1]
        things[last] = (words[0], held)
    if lines[-1] != "":
        raise BadText(len(lines) - 1)
    for index, name in enumerate(things):
        if is_refused(things, name):
            raise BadText(index)
    return house_of(things)
