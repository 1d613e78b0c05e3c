"""In how many orders things can stand."""

from math import comb


def count_orders(barred):
    """In how many orders numbers can stand, each behind those whose bits are told for it."""
    orders = 1
    placed = 0
    for lot in lots_that_hang_together(barred):
        placed += len(lot)
        # those that have nothing to do with one another mix as they like
        orders *= comb(placed, len(lot)) * count_within(lot, barred)
    return orders


def lots_that_hang_together(barred):
    """The lists of numbers that are tied to one another, by any steps."""
    mates = [ahead_of_it | (1 << number) for number, ahead_of_it in enumerate(barred)]
    lots = []
    for tied in mates:
        apart = []
        for lot in lots:
            if lot & tied:
                tied |= lot
            else:
                apart.append(lot)
        lots = [*apart, tied]
    return [[at for at in range(len(barred)) if lot & (1 << at)] for lot in lots]


def count_within(lot, barred):
    """In how many orders these numbers can stand."""
    ways = {0: 1}
    for _ in lot:
        further = {}
        for done, many in ways.items():
            for number in lot:
                bit = 1 << number
                if not done & bit and done & barred[number] == barred[number]:
                    further[done + bit] = further.get(done + bit, 0) + many
        ways = further
    return sum(list(ways.values()))
