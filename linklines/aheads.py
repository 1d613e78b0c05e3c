"""What stands ahead, and who is the first to tell a name, with any company."""

from linklines.checks import first_not_among, is_word
from linklines.errors import BadName, BadThere
from linklines.firsts import all_firsts, company_with_first, stands_ahead, surely_stands_ahead
from linklines.grounds import Ground


def surely_there(store, needs):
    ground = Ground(store, needs)
    return sorted([thing for thing in ground.loaded_row(ground.bare()) if isinstance(thing, str)])


def surely_ahead(store, needs, one, other):
    ground = Ground(store, needs)
    ground.check_library(one)
    ground.check_library(other)
    return surely_stands_ahead(ground, one, other)


def company_ahead(store, needs, one, other):
    ground = Ground(store, needs)
    ground.check_library(one)
    ground.check_library(other)
    # With the first hole needing it alone one stands as far ahead as any company can bring it.
    company = ground.company_needing([one]) if ground.has_holes() else []
    loaded = ground.loaded_row(company)
    if one not in loaded or stands_ahead(loaded, other, one):
        return None
    return company


def asked_ground(store, needs, name, there):
    ground = Ground(store, needs)
    if not is_word(name):
        raise BadName(name)
    bad = first_not_among(there, ground.shelved)
    if bad is not None:
        raise BadThere(bad)
    return ground


def first_ones(store, needs, name, there=()):
    return all_firsts(asked_ground(store, needs, name, there), name, there)


def company_for(store, needs, name, there, thing):
    return company_with_first(asked_ground(store, needs, name, there), name, there, thing)
