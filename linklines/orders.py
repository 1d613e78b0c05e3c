"""All orders of some files."""

from itertools import permutations

from linklines.checks import first_not_among
from linklines.errors import BadPick
from linklines.reading import Reading, shelf_of


def check_picks(store, names):
    bad = first_not_among(names, store.files())
    if bad is not None:
        raise BadPick(bad)


def ends_of_orders(store, names):
    """The dict, orders ascending, from all orders of names to their outcomes."""
    check_picks(store, names)
    readings = {(): Reading(shelf_of(store))}
    ends = {}
    words = sorted(names)
    for order in permutations(words):
        ends[order] = reading_behind(readings, order).outcome()
    return ends


def reading_behind(readings, order):
    """The reading of an order; those of its beginnings are kept, as many orders begin alike."""
    for many in range(1, len(order) + 1):
        if order[:many] not in readings:
            reading = readings[order[:many - 1]].branch()
            reading.read(order[many - 1])
            readings[order[:many]] = reading
    return readings[order]


def exchanged_orders(order):
    """All orders that differ from one by an exchange of neighbours, ascending."""
    told = []
    for at in range(len(order) - 1):
        told.append((*order[:at], order[at + 1], order[at], *order[at + 2:]))
    return sorted(told)


def orders_part(store, names):
    ends = ends_of_orders(store, names)
    for one in ends:
        for other in exchanged_orders(one):
            if ends[other] != ends[one]:
                return (one, other)
    return None


def order_that_links(store, names):
    for order, end in ends_of_orders(store, names).items():
        if end[0] == "links":
            return list(order)
    return None


def how_many_link(store, names):
    return len([end for end in ends_of_orders(store, names).values() if end[0] == "links"])
