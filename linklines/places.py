"""Files that may change places, and the exchanges by which a line is led to another one."""

from linklines.checks import is_integer_from, is_list
from linklines.errors import NoFile
from linklines.reading import check_line
from linklines.tables import Table, lots_of


def first_unlike_behind(table, lots, one, other):
    """The first stand from which the two files lead to unlike ones by their order, None if there is none."""
    for number in range(len(table.all_stands)):
        if lots[table.behind(number, (one, other))] != lots[table.behind(number, (other, one))]:
            return number
    return None


def places_part(store, one, other):
    if not store.has_file(one):
        raise NoFile(one)
    if not store.has_file(other):
        raise NoFile(other)
    table = Table(store)
    number = first_unlike_behind(table, lots_of(table), one, other)
    if number is None:
        return None
    behind = table.first_parting(table.behind(number, (one, other)), table.behind(number, (other, one)))
    return (table.first_lines[number], tuple(behind))


def changing_pairs(store):
    """A dict of all pairs of unlike files that may change places."""
    table = Table(store)
    lots = lots_of(table)
    pairs = {}
    for at, one in enumerate(table.file_names):
        for other in table.file_names[at + 1:]:
            if first_unlike_behind(table, lots, one, other) is None:
                pairs[(one, other)] = True
                pairs[(other, one)] = True
    return pairs


def passes_all(pairs, ahead, name):
    return all([(one, name) in pairs for one in ahead])


def first_led(store, line):
    check_line(store, line)
    pairs = changing_pairs(store)
    left = list(line)
    told = []
    while left:
        free = [at for at, name in enumerate(left) if passes_all(pairs, left[:at], name)]
        at = min([(left[place], place) for place in free])[1]
        told.append(left[at])
        del left[at]
    return told


def exchanges(store, one, other):
    check_line(store, one)
    check_line(store, other)
    if len(one) != len(other):
        return None
    pairs = changing_pairs(store)
    now = list(one)
    told = []
    for goal, name in enumerate(other):
        if name not in now[goal:]:
            return None
        at = now.index(name, goal)
        if not passes_all(pairs, now[goal:at], name):
            return None
        while at > goal:
            at -= 1
            told.append(at)
            now[at], now[at + 1] = now[at + 1], now[at]
    return told


def are_exchanges(store, one, other, thing):
    check_line(store, one)
    check_line(store, other)
    if not is_list(thing):
        return False
    pairs = changing_pairs(store)
    now = list(one)
    for index in thing:
        if not is_integer_from(0, index) or index + 1 >= len(now):
            return False
        if (now[index], now[index + 1]) not in pairs:
            return False
        now[index], now[index + 1] = now[index + 1], now[index]
    return now == list(other)


def pair_against(store, one, other):
    check_line(store, one)
    check_line(store, other)
    pairs = changing_pairs(store)
    words = store.files()
    for at, first in enumerate(words):
        for second in words[at:]:
            if (first, second) not in pairs and only(one, first, second) != only(other, first, second):
                return (first, second)
    return None


def only(line, first, second):
    """The line, all files but these two left out."""
    return [name for name in line if name in (first, second)]
