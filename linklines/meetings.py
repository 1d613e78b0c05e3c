"""To what references are bound, and whether they meet, with any company."""

from linklines.aheads import first_ones
from linklines.errors import NoRow
from linklines.firsts import all_firsts, company_with_first
from linklines.grounds import Ground
from linklines.objects import check_mark


def binding(store, needs, reference):
    ground = Ground(store, needs)
    ground.check_reference(reference)
    library, name = reference
    firsts = all_firsts(ground, name, [library])
    if firsts and ground.binds_itself(library, name):
        return [library]
    return firsts


def libraries_of(one, other):
    """The libraries of two references, each once."""
    return [one[0]] if one[0] == other[0] else [one[0], other[0]]


def do_meet(ground, one, other, first):
    """Whether two references meet in a row in which the first one of the name of one is this."""
    if one[1] != other[1]:
        return False
    things = [library if ground.binds_itself(library, name) else first for library, name in (one, other)]
    return things[0] is not None and things[0] == things[1]


def meeting_ground(store, needs, one, other):
    ground = Ground(store, needs)
    ground.check_reference(one)
    ground.check_reference(other)
    return ground


def meeting(store, needs, one, other):
    ground = meeting_ground(store, needs, one, other)
    firsts = all_firsts(ground, one[1], libraries_of(one, other))
    if len(firsts) == 0:
        raise NoRow()
    met = [do_meet(ground, one, other, first) for first in firsts]
    if all(met):
        return "sure"
    return "open" if any(met) else "never"


def company_where(store, needs, one, other, is_met):
    ground = meeting_ground(store, needs, one, other)
    check_mark(is_met)
    there = libraries_of(one, other)
    for first in all_firsts(ground, one[1], there):
        if do_meet(ground, one, other, first) == is_met:
            return company_with_first(ground, one[1], there, first)
    return None


def promises(store, needs, name, there, library):
    firsts = first_ones(store, needs, name, there)
    Ground(store, needs).check_library(library)
    libraries = [first for first in firsts if isinstance(first, str)]
    if libraries != [library] or None in firsts:
        return None
    return [first for first in firsts if not isinstance(first, str)]
