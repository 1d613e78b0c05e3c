"""Classes of files and of names, and the first inputs that rules win."""

from linklines.checks import is_integer_from
from linklines.errors import NoRule
from linklines.pools import Pool, numbers_in


def classes_told(firsts):
    return [(tuple(numbers_in(lot)), word) for lot, word in firsts.items()]


def file_classes(script):
    return classes_told(Pool(script.rules()).file_firsts)


def name_classes(script):
    return classes_told(Pool(script.rules()).name_firsts)


def first_inputs(script):
    """The first input that each rule wins, by the rule's bit, and the first one that none takes, by 0."""
    firsts = {}
    for lot, found in Pool(script.rules()).first_shared().items():
        winner = lot & -lot
        if winner not in firsts or found < firsts[winner]:
            firsts[winner] = found
    return {winner: (file, name) for winner, (_, file, name) in firsts.items()}


def first_won(script, number):
    if not is_integer_from(0, number) or number >= len(script.rules()):
        raise NoRule(number)
    return first_inputs(script).get(1 << number)


def first_untaken(script):
    return first_inputs(script).get(0)
