"""States of steady releases: good ones, the least and the greatest, upgrades."""

from linklines.errors import BadGoals
from linklines.goodness import ground_of


def is_good(releases, state):
    ground = ground_of(releases)
    return ground.is_good_state(ground.checked_state(state))


def good_above(releases, state):
    ground = ground_of(releases)
    return least_good(ground, ground.checked_state(state))


def good_below(releases, state):
    ground = ground_of(releases)
    return ground.lowered(ground.checked_state(state))


def upgraded(releases, state, goals):
    ground = ground_of(releases)
    known = ground.checked_state(state)
    check_goals(ground, goals)
    return least_good(ground, {library: max(number, goals.get(library, 1)) for library, number in known.items()})


def least_good(ground, state):
    lifted = ground.lifted(state)
    return None if lifted is None else lifted[0]


def check_goals(ground, goals):
    if not isinstance(goals, dict):
        raise BadGoals(None)
    for library, number in goals.items():
        if library not in ground.counts or not ground.is_number(library, number):
            raise BadGoals(library)
