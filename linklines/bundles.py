"""Bundles: what has to change at once on the way from a good state to another one, and in which orders."""

from linklines.checks import is_integer, is_list
from linklines.counting import count_orders
from linklines.journeys import journey_of


def bundles(releases, state, goal):
    return [dict(pack) for pack in journey_of(releases, state, goal).packs]


def ahead(releases, state, goal):
    return journey_of(releases, state, goal).pairs_ahead()


def is_order(releases, state, goal, thing):
    journey = journey_of(releases, state, goal)
    many = len(journey.packs)
    if not is_list(thing) or not all([is_integer(number) for number in thing]):
        return False
    if sorted(thing) != list(range(many)):
        return False
    place = {number: at for at, number in enumerate(thing)}
    return all([place[one] < place[other] for one, other in journey.pairs_ahead()])


def how_many_orders(releases, state, goal):
    journey = journey_of(releases, state, goal)
    many = len(journey.packs)
    barred = [0] * many
    for one, other in journey.pairs_ahead():
        barred[other] += 1 << one
    return count_orders(barred)
