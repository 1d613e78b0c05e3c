"""Tables of slots that neighbouring files share."""

from linklines.checks import is_integer, is_list, is_row_of, is_word
from linklines.errors import BadWants, Full
from linklines.nametables import check_number


def is_slot(thing):
    return is_row_of(2, thing) and is_word(thing[0]) and is_integer(thing[1])


def check_slots(wants):
    if not is_list(wants):
        raise BadWants(0)
    for index, thing in enumerate(wants):
        if not is_list(thing) or not all([is_slot(slot) for slot in thing]):
            raise BadWants(index)


def many_wanted(wants, first, last):
    """How many unlike things files want together."""
    seen = {}
    for want in wants[first:last + 1]:
        seen.update({tuple(slot): True for slot in want})
    return len(seen)


def fewest_tables(wants, most):
    check_slots(wants)
    check_number(most)
    for index in range(len(wants)):
        if many_wanted(wants, index, index) > most:
            raise Full(index)
    stretches = []
    first = 0
    for index in range(len(wants)):
        if many_wanted(wants, first, index) > most:
            stretches.append((first, index - 1))
            first = index
    if len(wants) > 0:
        stretches.append((first, len(wants) - 1))
    crowds = [(stretch[0], further[0]) for stretch, further in zip(stretches, stretches[1:])]
    return (stretches, crowds)


def is_crowd(wants, most, thing):
    if not is_row_of(2, thing) or not is_integer(thing[0]) or not is_integer(thing[1]):
        return False
    return 0 <= thing[0] <= thing[1] < len(wants) and many_wanted(wants, thing[0], thing[1]) > most


def are_crowds(wants, most, thing):
    check_slots(wants)
    check_number(most)
    if not is_list(thing) or not all([is_crowd(wants, most, crowd) for crowd in thing]):
        return False
    return all([crowd[1] <= further[0] for crowd, further in zip(thing, thing[1:])])
