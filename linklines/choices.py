"""Lots of names, and which of them are least or greatest."""


def all_lots(names):
    """All lots of names, ascending tuples in the order of choices."""
    lots = [()]
    for name in sorted(names):
        lots.extend([(*lot, name) for lot in lots])
    return [lot for _, lot in sorted([(len(lot), lot) for lot in lots])]


def is_within(lot, other):
    return all([thing in other for thing in lot])


def least_of_lots(lots):
    """Of lots in the order of choices those within which there is no other one."""
    found = []
    for lot in lots:
        if not any([is_within(other, lot) for other in found]):
            found.append(lot)
    return found


def greatest_of_lots(lots):
    """Of lots in the order of choices those that are within no other one."""
    found = []
    for lot in reversed(lots):
        if not any([is_within(lot, other) for other in found]):
            found.append(lot)
    return found[::-1]
