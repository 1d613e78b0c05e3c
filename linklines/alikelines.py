"""Alike lines, and files that can be left out."""

from linklines.checks import is_integer_from, is_list
from linklines.errors import NoFile
from linklines.reading import check_line
from linklines.tables import Table, lots_of


def lines_part(store, one, other):
    check_line(store, one)
    check_line(store, other)
    table = Table(store)
    return table.first_parting(table.behind(0, one), table.behind(0, other))


def kinds(store):
    lots = lots_of(Table(store))
    members = {}
    for number, lot in enumerate(lots):
        members.setdefault(lot, []).append(number)
    return [tuple(lot) for lot in members.values()]


def lot_by_number(thing, many):
    """A dict from each number below many to the one lot in which it stands, None if there is no such."""
    if not is_list(thing):
        return None
    found = {}
    for at, lot in enumerate(thing):
        if not is_list(lot) or len(lot) == 0:
            return None
        for number in lot:
            if not is_integer_from(0, number) or number >= many or number in found:
                return None
            found[number] = at
    return found if len(found) == many else None


def are_sound(store, thing):
    table = Table(store)
    found = lot_by_number(thing, len(table.all_stands))
    if found is None:
        return False
    return all([goes_with(table, found, lot[0], number) for lot in thing for number in lot])


def goes_with(table, found, one, other):
    """Whether two stands have one outcome, and each file leads from them into one lot."""
    if table.all_outcomes[one] != table.all_outcomes[other]:
        return False
    ways, others = table.all_ways[one], table.all_ways[other]
    return all([found[ways[name]] == found[others[name]] for name in table.file_names])


def needless(store):
    table = Table(store)
    lots = lots_of(table)
    return [name for name in table.file_names if leads_to_alike(table, lots, name)]


def leads_to_alike(table, lots, name):
    return all([lots[way[name]] == lots[number] for number, way in enumerate(table.all_ways)])


def line_that_needs(store, name):
    if not store.has_file(name):
        raise NoFile(name)
    return Table(store).first_parting(0, 0, name)
