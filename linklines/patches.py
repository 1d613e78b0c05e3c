"""Patches: one row of cells made out of another one at the least cost."""

from linklines.checks import frozen, is_integer, is_integer_from, is_list, is_row_of
from linklines.errors import BadCells, BadPrices, BadRun
from linklines.objects import is_reference


def is_cell(thing):
    return is_integer(thing) or is_reference(thing)


def are_cells(thing):
    return is_list(thing) and all([is_cell(cell) for cell in thing])


def is_write(thing):
    return is_row_of(2, thing) and thing[0] == "write" and are_cells(thing[1]) and len(thing[1]) > 0


def is_copy(thing):
    if not is_row_of(3, thing) or thing[0] != "copy":
        return False
    return is_integer_from(0, thing[1]) and is_integer_from(1, thing[2])


def check_runs(patch, many):
    """BadRun; many is the length of the old row, None for any."""
    if not is_list(patch):
        raise BadRun(0)
    for index, thing in enumerate(patch):
        if not is_write(thing) and not is_copy(thing):
            raise BadRun(index)
        if thing[0] == "copy" and many is not None and thing[1] + thing[2] > many:
            raise BadRun(index)


def check_prices(prices):
    if not is_list(prices):
        raise BadPrices(0)
    for index, thing in enumerate(prices):
        if index == 3 or not is_integer_from(1, thing):
            raise BadPrices(index)
    if len(prices) < 3:
        raise BadPrices(3)


def patched(old, patch):
    check_runs(patch, len(old))
    made = []
    for run in patch:
        made.extend(run[1] if run[0] == "write" else old[run[1]:run[1] + run[2]])
    return list(frozen(made))


def cost(patch, prices):
    check_runs(patch, None)
    check_prices(prices)
    return sum([prices[2] if run[0] == "copy" else prices[0] + prices[1] * len(run[1]) for run in patch])


def check_cells(old, new):
    if not are_cells(old):
        raise BadCells(0)
    if not are_cells(new):
        raise BadCells(1)


class Copies:
    """For each place of a new row the longest copy of an old row that stands there."""

    def __init__(self, old, new):
        self.old = frozen(old)
        self.new = frozen(new)
        self.longest = []
        self.origins = []
        for place in range(len(self.new)):
            best = (0, 0)
            for origin in range(len(self.old)):
                many = self.match(origin, place)
                if many > best[0]:
                    best = (many, origin)
            self.longest.append(best[0])
            self.origins.append(best[1])

    def match(self, origin, place):
        most = min(len(self.old) - origin, len(self.new) - place)
        for many in range(most):
            if self.old[origin + many] != self.new[place + many]:
                return many
        return most

    def can_copy(self, place, end):
        return end - place <= self.longest[place]

    def price(self, place, end, prices):
        """The price of the cheapest one run that makes what stands from place to end."""
        write = prices[0] + prices[1] * (end - place)
        return min(write, prices[2]) if self.can_copy(place, end) else write

    def run(self, place, end, prices):
        if self.can_copy(place, end) and prices[2] <= prices[0] + prices[1] * (end - place):
            return ("copy", self.origins[place], end - place)
        return ("write", self.new[place:end])

    def costs(self, prices):
        """For each place of the new row, and its end, the least cost of all ahead and the begin of the last run."""
        found = [(0, 0)]
        for end in range(1, len(self.new) + 1):
            found.append(min([(found[at][0] + self.price(at, end, prices), at) for at in range(end)]))
        return found


def least_patch(old, new, prices):
    check_cells(old, new)
    check_prices(prices)
    copies = Copies(old, new)
    costs = copies.costs(prices)
    patch = []
    end = len(copies.new)
    while end > 0:
        patch.append(copies.run(costs[end][1], end, prices))
        end = costs[end][1]
    return patch[::-1]


def floor(old, new, prices):
    check_cells(old, new)
    check_prices(prices)
    return [found[0] for found in Copies(old, new).costs(prices)]


def is_floor(old, new, prices, thing):
    check_cells(old, new)
    check_prices(prices)
    many = len(new)
    if not is_row_of(many + 1, thing) or not all([is_integer(number) for number in thing]) or thing[0] != 0:
        return False
    copies = Copies(old, new)
    for end in range(1, many + 1):
        if not all([thing[end] <= thing[at] + copies.price(at, end, prices) for at in range(end)]):
            return False
    return True
